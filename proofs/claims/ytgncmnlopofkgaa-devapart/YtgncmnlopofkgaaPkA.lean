/-
  Many rows of the call's own beside a device: bytes (L) and numbers (I), each in a block of its own.
-/
import Derived.Test.YtgncmnlopofkgaaPkG
import Derived.ArgAppend
namespace Go.Proofs.Ytgncmnlopofkgaa
open Go.RowKit Go.Maps
def Off (x y : Value) : Prop := ∀ k, x.ownBlock = some k → ¬ some k = y.ownBlock
theorem Off.symm {x y : Value} (h : Off x y) : Off y x := fun k h1 h2 => h k h2.symm h1.symm
structure Pk (b : Nat) (w W : World) (s : DS) (L : List (Value × List UInt8)) (I : List (Value × List Int)) : Prop where
  dv : ∃ cv, Dv b W (b + 2) b (b + 1) cv s
  bel : Below b w W
  sz : b ≤ W.heap.size
  rows : ∀ x ∈ L, Own b W x.1 x.2
  ints : ∀ x ∈ I, OwnI b W x.1 x.2
  rap : (L.map (·.1)).Pairwise Off
  iap : (I.map (·.1)).Pairwise Off
variable {b : Nat} {w W W' : World} {s s' : DS} {L : List (Value × List UInt8)} {I : List (Value × List Int)}
theorem Pk.below (h : Pk b w W s L I) (hb : Below W.heap.size W W') : Pk b w W' s L I := by
  obtain ⟨cv, hd⟩ := h.dv
  exact ⟨⟨cv, hd.below hb⟩, h.bel.trans (hb.mono h.sz), Nat.le_trans h.sz hb.size, fun x hx => (h.rows x hx).below hb, fun x hx => owns_below (h.ints x hx) hb, h.rap, h.iap⟩
theorem Pk.dev {cv cv' : Value} (h : Pk b w W s L I) (hd : Dv b W (b + 2) b (b + 1) cv s) (hd' : Dv b W' (b + 2) b (b + 1) cv' s') (hk : Kept (Foot (b + 2) b (b + 1) cv) W W') : Pk b w W' s' L I :=
  ⟨⟨cv', hd'⟩, h.bel.trans (hk.below h.sz (fun x hx => (hd.foot_lt x hx).1)), Nat.le_trans h.sz hk.size, fun x hx => (h.rows x hx).kept hk (hd.bytes_ne (h.rows x hx)), fun x hx => row_kept (h.ints x hx) hk (foot_ne hd (h.ints x hx) (by decide) (by decide) (by decide)), h.rap, h.iap⟩
/-- A new row of bytes. -/
theorem Pk.new {v : Value} {l : List UInt8} (h : Pk b w W s L I) (hb : Below W.heap.size W W') (ho : Own W.heap.size W' v l) : Pk b w W' s ((v, l) :: L) I := by
  have h' := h.below hb
  refine ⟨h'.dv, h'.bel, h'.sz, fun x hx => ?_, h'.ints, ?_, h'.iap⟩
  · rcases List.mem_cons.1 hx with rfl | hx
    · exact ho.mono h.sz
    · exact h'.rows x hx
  · rw [List.map_cons]
    refine List.Pairwise.cons (fun y hy k h1 h2 => ?_) h'.rap
    obtain ⟨x, hx, rfl⟩ := List.mem_map.1 hy
    have q1 := (ho.lt k h1).1
    have q2 := ((h.rows x hx).lt k h2.symm).2
    omega
/-- A new row of numbers. -/
theorem Pk.newI {v : Value} {l : List Int} (h : Pk b w W s L I) (hb : Below W.heap.size W W') (ho : OwnI W.heap.size W' v l) : Pk b w W' s L ((v, l) :: I) := by
  have h' := h.below hb
  refine ⟨h'.dv, h'.bel, h'.sz, h'.rows, fun x hx => ?_, h'.rap, ?_⟩
  · rcases List.mem_cons.1 hx with rfl | hx
    · obtain ⟨h1, h2 | ⟨g, cap, cur, hv, hB, hr⟩⟩ := ho
      · exact ⟨h1, .inl h2⟩
      · exact ⟨h1, .inr ⟨g, cap, cur, hv, Nat.le_trans h.sz hB, hr⟩⟩
    · exact h'.ints x hx
  · rw [List.map_cons]
    refine List.Pairwise.cons (fun y hy k h1 h2 => ?_) h'.iap
    obtain ⟨x, hx, rfl⟩ := List.mem_map.1 hy
    have q1 := (World.ownsRow.lt ho k h1).1
    have q2 := (World.ownsRow.lt (h.ints x hx) k h2.symm).2
    omega
theorem off_at {l : List Value} (h : l.Pairwise Off) {i j : Nat} {x y : Value} (hx : l[i]? = some x) (hy : l[j]? = some y) (hij : i ≠ j) : Off x y := by
  rw [List.pairwise_iff_getElem] at h
  obtain ⟨h1, rfl⟩ := List.getElem?_eq_some_iff.1 hx
  obtain ⟨h2, rfl⟩ := List.getElem?_eq_some_iff.1 hy
  rcases Nat.lt_or_gt_of_ne hij with q | q
  · exact h i j h1 h2 q
  · exact (h j i h2 h1 q).symm
/-- A byte of a row set. -/
theorem Pk.set {i g n cap : Nat} {l : List UInt8} (h : Pk b w W s L I) (hi : L[i]? = some (.slice (some ⟨g, 0, none⟩) n cap, l)) (k : Nat) (c : UInt8) (hk : k < l.length) :
    (∃ u, W.cell? ⟨g, k, none⟩ = some u) ∧ W.frozen? ⟨g, k, none⟩ = false ∧ Pk b w (W.setCell ⟨g, k, none⟩ (.int .u8 (c8 c))) s (L.set i (.slice (some ⟨g, 0, none⟩) n cap, l.set k c)) I := by
  have hr := h.rows _ (List.mem_of_getElem? hi)
  obtain ⟨q1, q2, q3⟩ := own_set hr k c hk
  have K : Kept (fun j => some j = (Value.slice (some ⟨g, 0, none⟩) n cap).ownBlock) W (W.setCell ⟨g, k, none⟩ (.int .u8 (c8 c))) := kept_set W _ _ rfl
  have hgb : b ≤ g := (hr.lt g rfl).1
  obtain ⟨cv, hd⟩ := h.dv
  refine ⟨q1, q2, ⟨cv, dv_row hd hr (by decide) (by decide) (by decide) K⟩, h.bel.setCell (p := ⟨g, k, none⟩) hgb _, by simp [World.setCell]; exact h.sz, fun x hx => ?_, fun x hx => row_kept (h.ints x hx) K (rows_ne (by decide) (h.ints x hx) hr), ?_, h.iap⟩
  · obtain ⟨j, hj⟩ := List.mem_iff_getElem?.1 hx
    by_cases e : i = j
    · subst e
      rw [List.getElem?_set_self (by have := List.getElem?_eq_some_iff.1 hi; exact this.1)] at hj
      simp only [Option.some.injEq] at hj
      subst hj
      exact q3
    · rw [List.getElem?_set_ne e] at hj
      refine (h.rows x (List.mem_of_getElem? hj)).kept K (fun a h1 h2 => ?_)
      exact off_at h.rap (i := j) (j := i) (by rw [List.getElem?_map, hj]; rfl) (by rw [List.getElem?_map, hi]; rfl) (fun q => e q.symm) a h1 h2
  · have e : (L.set i (Value.slice (some ⟨g, 0, none⟩) n cap, l.set k c)).map (·.1) = L.map (·.1) := by
      rw [List.map_set]
      apply List.ext_getElem?
      intro j
      by_cases e : i = j
      · subst e
        rw [List.getElem?_set_self (by rw [List.length_map]; exact (List.getElem?_eq_some_iff.1 hi).1), List.getElem?_map, hi]
        rfl
      · rw [List.getElem?_set_ne e]
    rw [e]
    exact h.rap
theorem off_set {i : Nat} {v : Value} {l l' : List UInt8} (hi : L[i]? = some (v, l)) : (L.set i (v, l')).map (·.1) = L.map (·.1) := by
  rw [List.map_set]
  apply List.ext_getElem?
  intro j
  by_cases e : i = j
  · subst e
    rw [List.getElem?_set_self (by rw [List.length_map]; exact (List.getElem?_eq_some_iff.1 hi).1), List.getElem?_map, hi]
    rfl
  · rw [List.getElem?_set_ne e]
/-- A row of bytes changed. -/
theorem Pk.upd {i : Nat} {v : Value} {l l' : List UInt8} (h : Pk b w W s L I) (hi : L[i]? = some (v, l)) (K : Kept (fun j => some j = v.ownBlock) W W') (ho : Own b W' v l') : Pk b w W' s (L.set i (v, l')) I := by
  have hr := h.rows _ (List.mem_of_getElem? hi)
  obtain ⟨cv, hd⟩ := h.dv
  refine ⟨⟨cv, dv_row hd hr (by decide) (by decide) (by decide) K⟩, h.bel.trans (K.below h.sz (fun x e => (hr.lt x e.symm).1)), Nat.le_trans h.sz K.size, fun x hx => ?_, fun x hx => row_kept (h.ints x hx) K (rows_ne (by decide) (h.ints x hx) hr), by rw [off_set hi]; exact h.rap, h.iap⟩
  obtain ⟨j, hj⟩ := List.mem_iff_getElem?.1 hx
  by_cases e : i = j
  · subst e
    rw [List.getElem?_set_self ((List.getElem?_eq_some_iff.1 hi).1)] at hj
    simp only [Option.some.injEq] at hj
    subst hj
    exact ho
  · rw [List.getElem?_set_ne e] at hj
    refine (h.rows x (List.mem_of_getElem? hj)).kept K (fun a h1 h2 => ?_)
    exact off_at h.rap (i := j) (j := i) (by rw [List.getElem?_map, hj]; rfl) (by rw [List.getElem?_map, hi]; rfl) (fun q => e q.symm) a h1 h2
theorem list_set_same {α : Type} {l : List α} {i : Nat} {x : α} (h : l[i]? = some x) : l.set i x = l := by
  apply List.ext_getElem?
  intro j
  by_cases e : i = j
  · subst e; rw [List.getElem?_set_self ((List.getElem?_eq_some_iff.1 h).1), h]
  · rw [List.getElem?_set_ne e]
theorem Pk.same {i : Nat} {v : Value} {l : List UInt8} (h : Pk b w W s L I) (hi : L[i]? = some (v, l)) (K : Kept (fun j => some j = v.ownBlock) W W') (ho : Own b W' v l) : Pk b w W' s L I := by
  have := h.upd hi K ho
  rwa [list_set_same hi] at this
theorem offI_set {i : Nat} {v : Value} {l l' : List Int} (hi : I[i]? = some (v, l)) : (I.set i (v, l')).map (·.1) = I.map (·.1) := by
  rw [List.map_set]
  apply List.ext_getElem?
  intro j
  by_cases e : i = j
  · subst e
    rw [List.getElem?_set_self (by rw [List.length_map]; exact (List.getElem?_eq_some_iff.1 hi).1), List.getElem?_map, hi]
    rfl
  · rw [List.getElem?_set_ne e]
/-- A row of numbers changed. -/
theorem Pk.updI {i : Nat} {v : Value} {l l' : List Int} (h : Pk b w W s L I) (hi : I[i]? = some (v, l)) (K : Kept (fun j => some j = v.ownBlock) W W') (ho : OwnI b W' v l') : Pk b w W' s L (I.set i (v, l')) := by
  have hr := h.ints _ (List.mem_of_getElem? hi)
  obtain ⟨cv, hd⟩ := h.dv
  refine ⟨⟨cv, dv_row hd hr (by decide) (by decide) (by decide) K⟩, h.bel.trans (K.below h.sz (fun x e => (World.ownsRow.lt hr x e.symm).1)), Nat.le_trans h.sz K.size, fun x hx => (h.rows x hx).kept K (rows_ne (by decide) (h.rows x hx) hr), fun x hx => ?_, h.rap, by rw [offI_set hi]; exact h.iap⟩
  obtain ⟨j, hj⟩ := List.mem_iff_getElem?.1 hx
  by_cases e : i = j
  · subst e
    rw [List.getElem?_set_self ((List.getElem?_eq_some_iff.1 hi).1)] at hj
    simp only [Option.some.injEq] at hj
    subst hj
    exact ho
  · rw [List.getElem?_set_ne e] at hj
    refine row_kept (h.ints x (List.mem_of_getElem? hj)) K (fun a h1 h2 => ?_)
    exact off_at h.iap (i := j) (j := i) (by rw [List.getElem?_map, hj]; rfl) (by rw [List.getElem?_map, hi]; rfl) (fun q => e q.symm) a h1 h2
theorem Pk.sameI {i : Nat} {v : Value} {l : List Int} (h : Pk b w W s L I) (hi : I[i]? = some (v, l)) (K : Kept (fun j => some j = v.ownBlock) W W') (ho : OwnI b W' v l) : Pk b w W' s L I := by
  have := h.updI hi K ho
  rwa [list_set_same hi] at this
/-- A new row of bytes behind a call that changed the device. -/
theorem Pk.newD {cv cv' v : Value} {l : List UInt8} (h : Pk b w W s L I) (hd : Dv b W (b + 2) b (b + 1) cv s) (hd' : Dv b W' (b + 2) b (b + 1) cv' s') (hk : Kept (Foot (b + 2) b (b + 1) cv) W W') (ho : Own W.heap.size W' v l) : Pk b w W' s' ((v, l) :: L) I := by
  have h' := h.dev hd hd' hk
  refine ⟨h'.dv, h'.bel, h'.sz, fun x hx => ?_, h'.ints, ?_, h'.iap⟩
  · rcases List.mem_cons.1 hx with rfl | hx
    · exact ho.mono h.sz
    · exact h'.rows x hx
  · rw [List.map_cons]
    refine List.Pairwise.cons (fun y hy k h1 h2 => ?_) h'.rap
    obtain ⟨x, hx, rfl⟩ := List.mem_map.1 hy
    have q1 := (ho.lt k h1).1
    have q2 := ((h.rows x hx).lt k h2.symm).2
    omega
/-- One more behind a row of bytes: the row itself stays. -/
theorem app_more {ops : Array Oper} {rest : List Oper} {o : Oper} {a : Act} {Q : Exit → Act → World → Prop} (hgd : o.guard = none) (so x : Operand)
    (t e : TypeId) (i0 : TypeInfo) (z : Value) (bytes : Nat) (ho : o.op = .call { callee := .builtin .append, args := #[so, x], argTypes := #[t, t] })
    (h1 : Try.prog.underlying t = some (.slice e)) (h2 : Try.prog.info? e = some i0) (h3 : i0.zero = some z) (h4 : i0.size = 1) (h5 : i0.bytes = bytes) (h6 : z.cells.size = 1) (hby : bytes ≤ 8)
    {B g n cap : Nat} {W0 : World} {xs : List Value} (hs : a.eval so = .slice (some ⟨g, 0, none⟩) n cap) (hown : W0.ownsRow B e 1 (.slice (some ⟨g, 0, none⟩) n cap) n xs) (u : Value) (hu : u.oneCell' = true)
    (hx : a.eval x = .slice (some ⟨W0.heap.size, 0, none⟩) 1 1) (hn : n ≤ 100000)
    (h : ∀ a' c' W', W'.ownsRow B e 1 (.slice (some ⟨g, 0, none⟩) n cap) n xs → Kept (fun j => some j = (Value.slice (some ⟨g, 0, none⟩) n cap).ownBlock) W0 W' → Hid (∃ B', W'.ownsRow B' e 1 (.slice a' (n + 1) c') (n + 1) (xs ++ [u])) → wpList Try.prog ops Q rest (a.put o.dst (.slice a' (n + 1) c')) W') :
    wpList Try.prog ops Q (o :: rest) a (W0.alloc (.cells #[u] e)) := by
  have hown' := hown
  obtain ⟨hl, ⟨hv, hn0⟩ | ⟨g2, cap2, cur, hv, hb, hg, hnc, hm, hsz, ht⟩⟩ := hown
  · simp at hv
  simp only [Value.slice.injEq, Option.some.injEq, Addr.mk.injEq, and_true] at hv
  obtain ⟨rfl, _, rfl⟩ := hv
  have hlt : g < W0.heap.size := lt_of_heap hg
  have hg' : (W0.alloc (.cells #[u] e)).heap[g]? = some (.cells cur e (0, 0)) := by rw [Below.heap_alloc _ _ _ hlt]; exact hg
  have K0 : Kept (fun j => some j = (Value.slice (some ⟨g, 0, none⟩) n cap).ownBlock) W0 (W0.alloc (.cells #[u] e)) := Below.kept ((Below.refl _ _).alloc (Nat.le_refl _) _) _
  refine wpList_append_arg _ hgd so x t ho e i0 z 1 bytes h1 h2 h3 h4 h5 h6 (by decide) g 0 n cap xs hs hl ?_ ⟨W0.heap.size, 0, none⟩ 1 1 [u] hx rfl ?_ ?_ ?_ (by unfold maxLen; omega) (Nat.le_trans (Nat.mul_le_mul_left _ hby) (by omega)) ?_ ?_
  · intro j v hj
    have hjl : j < xs.length := (List.getElem?_eq_some_iff.1 hj).1
    rw [cell_of_row _ _ _ _ _ _ hg', Nat.zero_add, ← Array.getElem?_toList, ← List.getElem?_take_of_lt (j := n * 1) (by omega), ht]
    exact hj
  · intro j v hj
    rw [add_plain, Nat.zero_add, World.cell?_alloc_new, ← Array.getElem?_toList]; exact hj
  · intro v hv; simp only [List.mem_cons, List.not_mem_nil, or_false] at hv; rw [hv]; exact hu
  · intro hroom j hj
    have hj0 : j = 0 := by simp at hj; omega
    subst hj0
    refine ⟨?_, frozen_of_row _ _ _ _ _ hg'⟩
    rw [cell_of_row _ _ _ _ _ _ hg', Array.getElem?_eq_getElem (by omega)]
    rfl
  · intro hroom
    have e1 : (W0.alloc (.cells #[u] e)).setCells g (0 + n * 1) [u] = (W0.alloc (.cells #[u] e)).setCell ⟨g, n, none⟩ u := by
      rw [World.setCells, World.setCells, Nat.zero_add, Nat.mul_one]
    rw [e1]
    have hg2 := heap_setCell_same _ g n _ _ u hg'
    have K1 : Kept (fun j => some j = (Value.slice (some ⟨g, 0, none⟩) n cap).ownBlock) (W0.alloc (.cells #[u] e)) ((W0.alloc (.cells #[u] e)).setCell ⟨g, n, none⟩ u) := kept_set _ _ _ rfl
    refine h _ _ _ ⟨hl, .inr ⟨g, cap, _, rfl, hb, hg2, hnc, hm, by simpa using hsz, ?_⟩⟩ (K0.trans K1 (fun _ _ q => q)) ⟨B, ⟨by simp [hl], .inr ⟨g, cap, _, rfl, hb, hg2, hroom, hm, by simpa using hsz, ?_⟩⟩⟩
    · rw [Array.toList_setIfInBounds, List.take_set_of_le (by omega)]
      exact ht
    · rw [Array.toList_setIfInBounds, Nat.mul_one, List.take_set]
      apply List.ext_getElem?
      intro j
      have ht' : cur.toList.take n = xs := by rw [← ht, Nat.mul_one]
      have hxl : xs.length = n := by rw [hl, Nat.mul_one]
      rcases Nat.lt_trichotomy j n with q | q | q
      · rw [List.getElem?_set_ne (by omega), List.getElem?_take_of_lt (by omega), List.getElem?_append_left (by omega), ← ht', List.getElem?_take_of_lt q]
      · subst q
        rw [List.getElem?_set_self (by rw [List.length_take, Array.length_toList, hsz]; omega), List.getElem?_append_right (by omega), hxl]
        simp
      · rw [List.getElem?_eq_none (by rw [List.length_set, List.length_take]; omega), List.getElem?_eq_none (by rw [List.length_append, hxl]; simp; omega)]
  · intro hgr v' w' r1 r2
    obtain ⟨a', c', rfl⟩ : ∃ a' c', v' = .slice a' (n + 1) c' := by
      obtain ⟨_, ⟨_, q⟩ | ⟨g3, c3, _, q, _⟩⟩ := r1
      · omega
      · exact ⟨_, _, q⟩
    have K2 : Kept (fun j => some j = (Value.slice (some ⟨g, 0, none⟩) n cap).ownBlock) (W0.alloc (.cells #[u] e)) w' := (grown_kept r2).mono (fun _ _ q => by simp at q)
    refine h _ _ _ (row_kept (World.ownsRow.alloc hown' _) (grown_kept r2) (fun k _ q => by simp at q)) (K0.trans K2 (fun _ _ q => q)) ⟨_, r1⟩
end Go.Proofs.Ytgncmnlopofkgaa
