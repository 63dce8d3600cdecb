/-
  SpaceApart: two spaces and rows of numbers, each in a block of its own.
-/
import Derived.Test.YtfdhccanacpanaaSpH
import Derived.ArgAppend
import Derived.Deep.RegionHeldLaw
import Derived.Deep.CutBlock
import Derived.Deep.DeepCutAuto
namespace Go.Proofs.Ytfdhccanacpanaa
open Go.RowKit
def Off (x y : Value) : Prop := ∀ k, x.ownBlock = some k → ¬ some k = y.ownBlock
theorem Off.symm {x y : Value} (h : Off x y) : Off y x := fun k h1 h2 => h k h2.symm h1.symm
theorem row_kept {F : Nat → Prop} {B e k n : Nat} {w w' : World} {v : Value} {xs : List Value} (H : w.ownsRow B e k v n xs) (hk : Kept F w w') (hF : ∀ g, v.ownBlock = some g → ¬ F g) : w'.ownsRow B e k v n xs := by
  obtain ⟨h1, h | ⟨g, cap, cur, hv, hB, hg, hr⟩⟩ := H
  · exact ⟨h1, .inl h⟩
  · subst hv
    exact ⟨h1, .inr ⟨g, cap, cur, rfl, hB, by rw [hk.block g (lt_of_heap hg) (hF g rfl)]; exact hg, hr⟩⟩
structure Pa (w W : World) (d s d' s' : Nat) (l l' : List UInt8) (R : List (Value × List Int)) : Prop where
  sp : Sp w.heap.size W d s 2 l
  st : Sp w.heap.size W d' s' 2 l'
  ne : s ≠ s'
  bl : Below w.heap.size w W
  rows : ∀ x ∈ R, OwnI w.heap.size W x.1 x.2
  ap : (R.map (·.1)).Pairwise Off
variable {w W W' : World} {d s d' s' : Nat} {l l' l'' : List UInt8} {R R' : List (Value × List Int)}
theorem Pa.below (h : Pa w W d s d' s' l l' R) (b : Below W.heap.size W W') : Pa w W' d s d' s' l l' R :=
  ⟨h.sp.below b, h.st.below b, h.ne, h.bl.trans (b.mono h.bl.size), fun x hx => (h.rows x hx).below b, h.ap⟩
theorem Pa.less (h : Pa w W d s d' s' l l' (R ++ R')) : Pa w W d s d' s' l l' R :=
  ⟨h.sp, h.st, h.ne, h.bl, fun x hx => h.rows x (List.mem_append_left _ hx), by have := h.ap; rw [List.map_append, List.pairwise_append] at this; exact this.1⟩
/-- A new row. -/
theorem Pa.new {v : Value} {t : List Int} (h : Pa w W d s d' s' l l' R) (b : Below W.heap.size W W') (o : OwnI W.heap.size W' v t) : Pa w W' d s d' s' l l' ((v, t) :: R) := by
  have h' := h.below b
  refine ⟨h'.sp, h'.st, h'.ne, h'.bl, fun x hx => ?_, ?_⟩
  · rcases List.mem_cons.1 hx with rfl | hx
    · exact o.mono h.bl.size
    · exact h'.rows x hx
  · rw [List.map_cons]
    refine List.Pairwise.cons (fun y hy k h1 h2 => ?_) h'.ap
    obtain ⟨x, hx, rfl⟩ := List.mem_map.1 hy
    have q1 := (o.lt k h1).1
    have q2 := ((h.rows x hx).lt k h2.symm).2
    omega
/-- A step of the second space. -/
theorem Pa.step (h : Pa w W d s d' s' l l' R) (t : Sp w.heap.size W' d' s' 2 l'') (K : Kept (fun k => k = s') W W') : Pa w W' d s d' s' l l'' R :=
  ⟨h.sp.kept K (fun e => by
      have h1 := h.sp.self
      subst e
      rw [h.st.sts] at h1
      simp at h1) h.ne, t, h.ne, h.st.trans h.bl K, fun x hx => (h.rows x hx).sp h.st K, h.ap⟩
theorem off_at {l : List Value} (h : l.Pairwise Off) {i j : Nat} {x y : Value} (hx : l[i]? = some x) (hy : l[j]? = some y) (hij : i ≠ j) : Off x y := by
  rw [List.pairwise_iff_getElem] at h
  obtain ⟨h1, rfl⟩ := List.getElem?_eq_some_iff.1 hx
  obtain ⟨h2, rfl⟩ := List.getElem?_eq_some_iff.1 hy
  rcases Nat.lt_or_gt_of_ne hij with q | q
  · exact h i j h1 h2 q
  · exact (h j i h2 h1 q).symm
/-- What touches but one row. -/
theorem Pa.upd {i : Nat} {v : Value} {t t' : List Int} (h : Pa w W d s d' s' l l' R) (hi : R[i]? = some (v, t)) (K : Kept (fun k => some k = v.ownBlock) W W') (o : OwnI w.heap.size W' v t') : Pa w W' d s d' s' l l' (R.set i (v, t')) := by
  have ov := h.rows _ (List.mem_of_getElem? hi)
  have hi' := (List.getElem?_eq_some_iff.1 hi).1
  refine ⟨h.sp.kept K (fun e => ?_) (fun e => ?_), h.st.kept K (fun e => ?_) (fun e => ?_), h.ne, h.bl.trans (K.below h.bl.size fun x hx => (ov.lt x hx.symm).1), fun x hx => ?_, ?_⟩
  · obtain ⟨cur, hc⟩ := ov.row e.symm
    rw [h.sp.self] at hc
    simp at hc
  · obtain ⟨cur, hc⟩ := ov.row e.symm
    rw [h.sp.sts] at hc
    simp at hc
  · obtain ⟨cur, hc⟩ := ov.row e.symm
    rw [h.st.self] at hc
    simp at hc
  · obtain ⟨cur, hc⟩ := ov.row e.symm
    rw [h.st.sts] at hc
    simp at hc
  · obtain ⟨j, hj, rfl⟩ := List.mem_iff_getElem.1 hx
    by_cases e : i = j
    · subst e
      rw [List.getElem_set_self]; exact o
    · rw [List.getElem_set_ne e]
      rw [List.length_set] at hj
      refine (h.rows _ (List.getElem_mem hj)).kept K fun k hk => ?_
      have := off_at h.ap (i := j) (j := i) (x := (R[j]).1) (y := v) (by simp [hj]) (by simp [hi]) (fun q => e q.symm)
      exact this k hk
  · have e : (R.set i (v, t')).map (·.1) = R.map (·.1) := by
      rw [List.map_set]
      apply List.ext_getElem?
      intro j
      by_cases q : i = j
      · subst q
        rw [List.getElem?_set_self (by simpa using hi')]
        simp [hi]
      · rw [List.getElem?_set_ne q]
    rw [e]; exact h.ap
theorem OwnI.at {B : Nat} {w : World} {v : Value} {t : List Int} (h : OwnI B w v t) (h0 : 0 < t.length) : ∃ g cap cur, v = .slice (some ⟨g, 0, none⟩) t.length cap ∧ t.length ≤ cap ∧ cap ≤ 9223372036854775807 ∧ w.heap[g]? = some (.cells cur 3 (0, 0)) ∧ cur.size = cap ∧ cur.toList.take t.length = cellsI t ∧ B ≤ g := by
  obtain ⟨_, ⟨_, hn⟩ | ⟨g, cap, cur, hv, hb, hg, hn, hm, hs, ht⟩⟩ := h
  · omega
  · exact ⟨g, cap, cur, hv, hn, by unfold maxLen at hm; omega, hg, by omega, by simpa using ht, hb⟩
theorem OwnI.put {B : Nat} {w : World} {g n cap : Nat} {t : List Int} (h : OwnI B w (.slice (some ⟨g, 0, none⟩) n cap) t) (j : Nat) (y : Int) : OwnI B (w.setCell ⟨g, j, none⟩ (.int .i64 y)) (.slice (some ⟨g, 0, none⟩) n cap) (t.set j y) := by
  obtain ⟨h1, ⟨hv, hn⟩ | ⟨g', cap', cur, hv, hb, hg, hn, hm, hs, ht⟩⟩ := h
  · simp at hv
  · simp only [Value.slice.injEq, Option.some.injEq, Addr.mk.injEq, and_true] at hv
    obtain ⟨rfl, rfl, rfl⟩ := hv
    refine ⟨by simp [cellsI], .inr ⟨g, cap, _, by simp, hb, heap_setCell_same _ _ _ _ _ _ hg, by simpa using hn, hm, by simpa using hs, ?_⟩⟩
    rw [Array.toList_setIfInBounds, List.length_set, List.take_set, ht]
    simp [cellsI, List.map_set]
theorem Ints.cell {w : World} {g n cap : Nat} {t : List Int} (h : Ints w (.slice (some ⟨g, 0, none⟩) n cap) t) (j : Nat) (y : Int) (hj : t[j]? = some y) : w.cell? ⟨g, j, none⟩ = some (.int .i64 y) := by
  obtain ⟨a, c, e, _, _, _, h4⟩ := h
  obtain ⟨b, off, ea, hc⟩ := h4 j (List.getElem?_eq_some_iff.1 hj).1
  simp only [Value.slice.injEq] at e
  rw [← e.1] at ea
  simp only [Option.some.injEq, Addr.mk.injEq, and_true] at ea
  obtain ⟨rfl, rfl⟩ := ea
  rw [Nat.zero_add] at hc
  rw [hc, List.getD_eq_getElem?_getD, hj]; rfl
theorem Ints.front {w : World} {a : Option Addr} {n cap : Nat} {t t' : List Int} (h : Ints w (.slice a n cap) (t ++ t')) : Ints w (.slice a t.length cap) t := by
  obtain ⟨a', c, e, h1, h2, h3, h4⟩ := h
  simp only [Value.slice.injEq] at e
  obtain ⟨rfl, rfl, rfl⟩ := e
  rw [List.length_append] at h1 h4
  refine ⟨a, cap, rfl, by omega, h2, h3, fun k hk => ?_⟩
  obtain ⟨b, off, ea, hc⟩ := h4 k (by omega)
  refine ⟨b, off, ea, ?_⟩
  rw [hc, List.getD_eq_getElem?_getD, List.getElem?_append_left hk, List.getD_eq_getElem?_getD]
/-- One more behind a row of bytes: the row itself stays. -/
theorem app_more {ops : Array Oper} {rest : List Oper} {o : Oper} {a : Act} {Q : Exit → Act → World → Prop} (hgd : o.guard = none) (so x : Operand)
    (t e : TypeId) (i0 : TypeInfo) (z : Value) (bytes : Nat) (ho : o.op = .call { callee := .builtin .append, args := #[so, x], argTypes := #[t, t] })
    (h1 : Try.prog.underlying t = some (.slice e)) (h2 : Try.prog.info? e = some i0) (h3 : i0.zero = some z) (h4 : i0.size = 1) (h5 : i0.bytes = bytes) (h6 : z.cells.size = 1) (hby : bytes ≤ 8)
    {B g n cap : Nat} {W0 : World} {xs : List Value} (hs : a.eval so = .slice (some ⟨g, 0, none⟩) n cap) (hown : W0.ownsRow B e 1 (.slice (some ⟨g, 0, none⟩) n cap) n xs) (u : Value) (hu : u.oneCell' = true)
    (hx : a.eval x = .slice (some ⟨W0.heap.size, 0, none⟩) 1 1) (hn : n ≤ 100000)
    (h : ∀ a' c' W', W'.ownsRow B e 1 (.slice (some ⟨g, 0, none⟩) n cap) n xs → Kept (fun j => some j = (Value.slice (some ⟨g, 0, none⟩) n cap).ownBlock) W0 W' → Hid (∃ B', W'.ownsRow B' e 1 (.slice a' (n + 1) c') (n + 1) (xs ++ [u])) → At (.slice (some ⟨g, 0, none⟩) n cap) (.slice a' (n + 1) c') W0 → wpList Try.prog ops Q rest (a.put o.dst (.slice a' (n + 1) c')) W') :
    wpList Try.prog ops Q (o :: rest) a (W0.alloc (.cells #[u] e)) := by
  have hown' := hown
  obtain ⟨hl, ⟨hv, hn0⟩ | ⟨g2, cap2, cur, hv, hb, hg, hnc, hm, hsz, ht⟩⟩ := hown
  · simp at hv
  simp only [Value.slice.injEq, Option.some.injEq, Addr.mk.injEq, and_true] at hv
  obtain ⟨rfl, _, rfl⟩ := hv
  have hlt : g < W0.heap.size := lt_of_heap hg
  have hg' : (W0.alloc (.cells #[u] e)).heap[g]? = some (.cells cur e (0, 0)) := by rw [Below.heap_alloc _ _ _ hlt]; exact hg
  have K0 : Kept (fun j => some j = (Value.slice (some ⟨g, 0, none⟩) n cap).ownBlock) W0 (W0.alloc (.cells #[u] e)) := Below.kept ((Below.refl _ _).alloc (Nat.le_refl _) _) _
  refine wpList_append_arg _ hgd so x t ho e i0 z 1 bytes h1 h2 h3 h4 h5 h6 (by decide) g 0 n cap xs hs hl ?_ ⟨W0.heap.size, 0, none⟩ 1 1 [u] hx rfl ?_ ?_ ?_ (by unfold maxLen; omega) (Nat.le_trans (Nat.mul_le_mul_left _ hby) (by omega)) ?_ ?_
  · intro j v hj
    have hjl : j < xs.length := (List.getElem?_eq_some_iff.1 hj).1
    rw [cell_of_row _ _ _ _ _ _ hg', Nat.zero_add, ← Array.getElem?_toList, ← List.getElem?_take_of_lt (j := n * 1) (by omega), ht]
    exact hj
  · intro j v hj
    rw [add_plain, Nat.zero_add, World.cell?_alloc_new, ← Array.getElem?_toList]; exact hj
  · intro v hv; simp only [List.mem_cons, List.not_mem_nil, or_false] at hv; rw [hv]; exact hu
  · intro hroom j hj
    have hj0 : j = 0 := by simp at hj; omega
    subst hj0
    refine ⟨?_, frozen_of_row _ _ _ _ _ hg'⟩
    rw [cell_of_row _ _ _ _ _ _ hg', Array.getElem?_eq_getElem (by omega)]
    rfl
  · intro hroom
    have e1 : (W0.alloc (.cells #[u] e)).setCells g (0 + n * 1) [u] = (W0.alloc (.cells #[u] e)).setCell ⟨g, n, none⟩ u := by
      rw [World.setCells, World.setCells, Nat.zero_add, Nat.mul_one]
    rw [e1]
    have hg2 := heap_setCell_same _ g n _ _ u hg'
    have K1 : Kept (fun j => some j = (Value.slice (some ⟨g, 0, none⟩) n cap).ownBlock) (W0.alloc (.cells #[u] e)) ((W0.alloc (.cells #[u] e)).setCell ⟨g, n, none⟩ u) := kept_set _ _ _ rfl
    refine h _ _ _ ⟨hl, .inr ⟨g, cap, _, rfl, hb, hg2, hnc, hm, by simpa using hsz, ?_⟩⟩ (K0.trans K1 (fun _ _ q => q)) ⟨B, ⟨by simp [hl], .inr ⟨g, cap, _, rfl, hb, hg2, hroom, hm, by simpa using hsz, ?_⟩⟩⟩ (fun k hk => Or.inl hk)
    · rw [Array.toList_setIfInBounds, List.take_set_of_le (by omega)]
      exact ht
    · rw [Array.toList_setIfInBounds, Nat.mul_one, List.take_set]
      apply List.ext_getElem?
      intro j
      have ht' : cur.toList.take n = xs := by rw [← ht, Nat.mul_one]
      have hxl : xs.length = n := by rw [hl, Nat.mul_one]
      rcases Nat.lt_trichotomy j n with q | q | q
      · rw [List.getElem?_set_ne (by omega), List.getElem?_take_of_lt (by omega), List.getElem?_append_left (by omega), ← ht', List.getElem?_take_of_lt q]
      · subst q
        rw [List.getElem?_set_self (by rw [List.length_take, Array.length_toList, hsz]; omega), List.getElem?_append_right (by omega), hxl]
        simp
      · rw [List.getElem?_eq_none (by rw [List.length_set, List.length_take]; omega), List.getElem?_eq_none (by rw [List.length_append, hxl]; simp; omega)]
  · intro hgr v' w' r1 r2
    obtain ⟨a', c', rfl⟩ : ∃ a' c', v' = .slice a' (n + 1) c' := by
      obtain ⟨_, ⟨_, q⟩ | ⟨g3, c3, _, q, _⟩⟩ := r1
      · omega
      · exact ⟨_, _, q⟩
    have K2 : Kept (fun j => some j = (Value.slice (some ⟨g, 0, none⟩) n cap).ownBlock) (W0.alloc (.cells #[u] e)) w' := (grown_kept r2).mono (fun _ _ q => by simp at q)
    refine h _ _ _ (row_kept (World.ownsRow.alloc hown' _) (grown_kept r2) (fun k _ q => by simp at q)) (K0.trans K2 (fun _ _ q => q)) ⟨_, r1⟩ (fun k hk => Or.inr (by have := (World.ownsRow.lt r1 k hk.symm).1; simp at this; omega))

/-- One number more behind a row: the row itself stays. -/
theorem app_keep {ops : Array Oper} {rest : List Oper} {o : Oper} {a : Act} {Q : Exit → Act → World → Prop} (hgd : o.guard = none) (so x : Operand)
    (ho : o.op = .call { callee := .builtin .append, args := #[so, x], argTypes := #[27, 27] })
    {B : Nat} {W0 X : World} {v u : Value} {t : List Int} {y : Int} (hX : X = W0.alloc (.cells #[.int .i64 y] 3)) (hs : a.eval so = v) (hown : OwnI B W0 v t) (hB : B ≤ W0.heap.size) (hx : a.eval x = u) (hu : u = .slice (some ⟨W0.heap.size, 0, none⟩) 1 1) (hl : t.length ≤ 100000)
    (h : ∀ a' c' W', Hid (OwnI B W' v t ∧ (∃ B', OwnI B' W' (.slice a' (t.length + 1) c') (t ++ [y])) ∧ Kept (fun j => some j = v.ownBlock) W0 W' ∧ At v (.slice a' (t.length + 1) c') W0) → wpList Try.prog ops Q rest (a.put o.dst (.slice a' (t.length + 1) c')) W') :
    wpList Try.prog ops Q (o :: rest) a X := by
  subst hu
  cases t with
  | nil =>
    obtain ⟨_, ⟨hv, _⟩ | ⟨g, cap, cur, hv, hb, hg, hn, hm, hs', ht⟩⟩ := id hown
    · refine app_new hgd so x ho (m := [y]) hX hs hown hB hx rfl (by simp) ?_
      intro v' W' o1 o2 o3
      obtain ⟨a', c', e, _⟩ := o1.len
      subst e
      exact h a' c' W' (Lib.hid ⟨by rw [hv]; exact OwnI.nil _ _, ⟨_, o1⟩, grown_kept o2, o3⟩)
    · subst hX hv
      obtain ⟨i0, hi, hz0, hz1, hz2⟩ := info_parts info_int
      refine app_more hgd so x 27 3 i0 (.int .i64 0) 8 ho Try.underlying27 hi hz0 hz1 hz2 rfl (by decide) hs hown (.int .i64 y) rfl hx (by simp) ?_
      intro a' c' W' r1 r2 r3 r4
      obtain ⟨B', r3⟩ := r3.out
      have r3' : OwnI B' W' (.slice a' (0 + 1) c') ([] ++ [y]) := r3
      exact h a' c' W' (Lib.hid ⟨r1, ⟨_, r3'⟩, r2, r4⟩)
  | cons z t =>
    obtain ⟨g, cap, cur, hv, _⟩ := hown.at (by simp)
    subst hX hv
    obtain ⟨i0, hi, hz0, hz1, hz2⟩ := info_parts info_int
    refine app_more hgd so x 27 3 i0 (.int .i64 0) 8 ho Try.underlying27 hi hz0 hz1 hz2 rfl (by decide) hs hown (.int .i64 y) rfl hx hl ?_
    intro a' c' W' r1 r2 r3 r4
    obtain ⟨B', r3⟩ := r3.out
    have r3' : OwnI B' W' (.slice a' ((z :: t).length + 1) c') ((z :: t) ++ [y]) := by
      show W'.ownsRow _ _ _ _ _ _
      rw [cellsI_app, List.length_append]; exact r3
    exact h a' c' W' (Lib.hid ⟨r1, ⟨_, r3'⟩, r2, r4⟩)
end Go.Proofs.Ytfdhccanacpanaa
