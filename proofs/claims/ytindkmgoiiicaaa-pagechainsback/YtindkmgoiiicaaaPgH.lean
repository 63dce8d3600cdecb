/-
  A chain's pages as rows; what Chain tells of lists of a law's own; rows that are written.
-/
import Derived.Test.YtindkmgoiiicaaaPgK
import Derived.Test.YtindkmgoiiicaaaPgQ
import Derived.ArgAppend
namespace Go.Proofs.Ytindkmgoiiicaaa
open Go.RowKit Go.Maps
/-- One number more behind a row of the call's own. -/
theorem app_wide1 {ops : Array Oper} {rest : List Oper} {o : Oper} {a : Act} {Q : Exit → Act → World → Prop} (hgd : o.guard = none) (s x : Operand)
    (ho : o.op = .call { callee := .builtin .append, args := #[s, x], argTypes := #[23, 23] })
    {B : Nat} {w0 : World} {v : Value} {l : List Int} (m : List Int) (hs : a.eval s = v) (hown : OwnI B w0 v l) (hB : B ≤ w0.heap.size)
    (hx : a.eval x = .slice (some ⟨w0.heap.size, 0, none⟩) m.length m.length) (hl : l.length + m.length ≤ 17592186044416)
    (h : ∀ v' w', Hid (OwnI B w' v' (l ++ m) ∧ w0.grownBy w' v.ownBlock) → wpList Try.prog ops Q rest (a.put o.dst v') w') :
    wpList Try.prog ops Q (o :: rest) a (w0.alloc (.cells (cellsI m).toArray 3)) := by
  obtain ⟨i0, hi, hz0, hz1, hz2⟩ := info_parts info_int
  refine wpList_append_own_at _ hgd s x 23 ho B 3 i0 (.int .i64 0) 1 8 Try.underlying23 hi hz0 hz1 hz2 rfl (by decide) v l.length (cellsI l) hs (World.ownsRow.alloc hown _) ⟨w0.heap.size, 0, none⟩ m.length m.length (cellsI m) hx (by rw [cellsI_length]; omega) ?_ (cellsI_one m) (by unfold maxLen; omega) (by omega) (by simp; omega) ?_
  · intro j u hj
    rw [add_plain, Nat.zero_add, World.cell?_alloc_new, List.getElem?_toArray]; exact hj
  · intro v' w' h1 h2 _ _
    refine h v' w' (Lib.hid ⟨?_, grown_alloc h2⟩)
    show w'.ownsRow _ _ _ _ _ _
    rw [cellsI_app, List.length_append]; exact h1
theorem Ints.front {w : World} {a : Option Addr} {n cap : Nat} {l m : List Int} (H : Ints w (.slice a n cap) (l ++ m)) : Ints w (.slice a l.length cap) l := by
  obtain ⟨a', cap', e', h1, h2, h0, hc⟩ := H
  simp only [Value.slice.injEq] at e'
  obtain ⟨rfl, rfl, rfl⟩ := e'
  rw [List.length_append] at h1
  refine ⟨a, cap, rfl, by omega, h2, h0, fun k hk => ?_⟩
  obtain ⟨b, off, ea, c0⟩ := hc k (by rw [List.length_append]; omega)
  refine ⟨b, off, ea, ?_⟩
  rw [c0, List.getD_eq_getElem?_getD, List.getD_eq_getElem?_getD, List.getElem?_append_left hk]
/-- The node of a chain's page. -/
def ndC (p : Cp) : Nd := ⟨3, [], [], [], [], p.1, p.2⟩
def nv0 : Nv := ⟨.slice none 0 0, .slice none 0 0, .slice none 0 0, .slice none 0 0⟩
theorem ls0 (w : World) (p : Cp) : Ls w nv0 (ndC p) :=
  ⟨⟨none, 0, rfl, by simp [ndC], by decide, fun _ => rfl, fun k hk => by simp [ndC] at hk⟩, ⟨none, 0, rfl, by simp [ndC], by decide, fun _ => rfl, fun k hk => by simp [ndC] at hk⟩, ⟨none, 0, rfl, by simp [ndC], by decide, fun _ => rfl, fun k hk => by simp [ndC] at hk⟩, ⟨none, 0, rfl, by simp [ndC], by decide, fun _ => rfl, fun k hk => by simp [ndC] at hk⟩⟩
theorem same_page (w : World) (nx : Int) (d : ByteArray) : Calls Try.prog 18 #[.agg #[.int .i64 3, .slice none 0 0, .slice none 0 0, .slice none 0 0, .slice none 0 0, .int .i64 nx, .string d], .agg #[.int .i64 3, .slice none 0 0, .slice none 0 0, .slice none 0 0, .slice none 0 0, .int .i64 nx, .string d]] w fun e w' => e = .returned (.bool true) ∧ Below w.heap.size w w' :=
  sameNode_yes (ndC (nx, d)) nv0 nv0 w (ls0 w _) (ls0 w _)
theorem cellsC_length (ps : List Cp) : (cellsC ps).length = ps.length * 7 := by
  induction ps with
  | nil => rfl
  | cons x r ih => rw [cellsC, List.flatMap_cons, ← cellsC, List.length_append, ih, List.length_cons]; simp [encC]; omega
theorem cellsC_at (ps : List Cp) (k j : Nat) (h : k < ps.length) (hj : j < 7) : (cellsC ps)[k * 7 + j]? = (encC (ps.getD k (0, ⟨#[]⟩)))[j]? := by
  induction ps generalizing k with
  | nil => simp at h
  | cons x r ih =>
    rw [cellsC, List.flatMap_cons, ← cellsC]
    cases k with
    | zero => rw [List.getElem?_append_left (by simp [encC]; omega)]; simp
    | succ k =>
      rw [List.getElem?_append_right (by simp [encC]; omega)]
      have := ih k (by simp at h; omega)
      simp only [encC, List.length_cons, List.length_nil] at this ⊢
      rw [show (k + 1) * 7 + j - (0 + 1 + 1 + 1 + 1 + 1 + 1 + 1) = k * 7 + j by omega]
      simpa [encC] using this
theorem OwnC.at {B : Nat} {w : World} {a : Option Addr} {n cap : Nat} {ps : List Cp} (H : OwnC B w (.slice a n cap) ps) (k : Nat) (hk : k < ps.length) : ∃ b off, a = some ⟨b, off, none⟩ ∧ ∀ j, j < 7 → w.cell? ⟨b, off + k * 7 + j, none⟩ = (encC (ps.getD k (0, ⟨#[]⟩)))[j]? := by
  obtain ⟨_, ⟨hv, hn⟩ | ⟨g, cap', cur, hv, hb, hg, hn, hm, hs, ht⟩⟩ := H
  · omega
  · simp only [Value.slice.injEq] at hv
    obtain ⟨rfl, rfl, rfl⟩ := hv
    refine ⟨g, 0, rfl, fun j hj => ?_⟩
    rw [cell_of_row w g _ cur _ _ hg, Nat.zero_add, ← Array.getElem?_toList, ← cellsC_at ps k j hk hj]
    have h1 : (cur.toList.take (ps.length * 7))[k * 7 + j]? = cur.toList[k * 7 + j]? := by rw [List.getElem?_take_of_lt (by omega)]
    rw [← h1, ht]
theorem OwnC.below {B : Nat} {w w' : World} {v : Value} {l : List Cp} (H : OwnC B w v l) (hb : Below w.heap.size w w') : OwnC B w' v l :=
  H.kept (Below.kept hb (fun _ => False)) fun _ _ h => h
theorem getD_at0 (l m : List Int) (i : Nat) (h : i < l.length) : (l ++ m).getD i 0 = l.getD i 0 := by
  rw [List.getD_eq_getElem?_getD, List.getD_eq_getElem?_getD, List.getElem?_append_left h]
theorem getD_at1 (l : List Int) (x y : Int) (k : Nat) (h : k = l.length) : (l ++ [x, y]).getD k 0 = x := by
  subst h
  rw [List.getD_eq_getElem?_getD, List.getElem?_append_right (Nat.le_refl _)]
  simp
theorem getD_at2 (l : List Int) (x y : Int) (k : Nat) (h : k = l.length) : (l ++ [x, y]).getD (k + 1) 0 = y := by
  subst h
  rw [List.getD_eq_getElem?_getD, List.getElem?_append_right (by omega)]
  simp
theorem chR_long {t : ByteArray} {bl : List Int} (h : 8192 < t.size) : chR t bl = ([], 23) := by unfold chR; rw [if_pos h]
theorem chR_yes {t : ByteArray} {bl : List Int} (h1 : t.size ≤ 8192) (h2 : bl.length = lnk t) (h3 : unlB bl = true) : chR t bl = (pgs t bl, 0) := by unfold chR; rw [if_neg (by omega), if_pos ⟨h2, h3⟩]
theorem chR_no {t : ByteArray} {bl : List Int} (h1 : t.size ≤ 8192) (h2 : ¬ (bl.length = lnk t ∧ unlB bl = true)) : chR t bl = ([], 1) := by unfold chR; rw [if_neg (by omega), if_neg h2]
def blF (F S : Int) (n : Nat) : List Int := (List.range n).map fun i : Nat => F + S * (i : Int)
theorem blF_length (F S : Int) (n : Nat) : (blF F S n).length = n := by simp [blF]
theorem blF_at (F S : Int) (n k : Nat) (h : k < n) : (blF F S n).getD k 0 = F + S * (k : Int) := by
  unfold blF
  rw [List.getD_eq_getElem?_getD, List.getElem?_map, List.getElem?_eq_getElem (by rw [List.length_range]; exact h)]
  simp
theorem blF_mem {F S : Int} {n : Nat} (hF : 1 ≤ F ∧ F ≤ 1024) (hS : 1 ≤ S ∧ S ≤ 128) (hn : n ≤ 17) : ∀ x ∈ blF F S n, 1 ≤ x ∧ x < 4000 := by
  intro x hx
  unfold blF at hx
  obtain ⟨i, hi, rfl⟩ := List.mem_map.1 hx
  rw [List.mem_range] at hi
  have h1 : S * (i : Int) ≤ 128 * 16 := Int.mul_le_mul hS.2 (by omega) (by omega) (by omega)
  have h2 : 0 ≤ S * (i : Int) := Int.mul_nonneg (by omega) (by omega)
  omega
theorem blF_unl {F S : Int} {n : Nat} (hF : 1 ≤ F ∧ F ≤ 1024) (hS : 1 ≤ S ∧ S ≤ 128) (hn : n ≤ 17) : unlB (blF F S n) = true := by
  unfold unlB
  rw [Bool.and_eq_true]
  constructor
  · rw [List.all_eq_true]
    intro x hx
    have := blF_mem hF hS hn x hx
    unfold blkB
    rw [decide_eq_true this.1, decide_eq_true (by omega)]
    rfl
  · refine decide_eq_true ?_
    unfold blF
    rw [List.Nodup, List.pairwise_map]
    refine (List.pairwise_lt_range (n := n)).imp ?_
    intro a b hab e
    have h1 : S * (a : Int) < S * (b : Int) := Int.mul_lt_mul_of_pos_left (by omega) (by omega)
    omega
theorem in64_small {l : List Int} (h : ∀ x ∈ l, 0 ≤ x ∧ x < 5000) : In64 l := fun n hn => by
  have := h n hn
  unfold Lit.wf
  have h1 : IntKind.i64.min = -9223372036854775808 := by decide
  have h2 : IntKind.i64.max = 9223372036854775807 := by decide
  simp [h1, h2]
  omega
theorem ext_join (t : ByteArray) (a b : Nat) (h : a ≤ b) : t.extract 0 a ++ t.extract a b = t.extract 0 b := by
  rw [ByteArray.extract_append_extract]; simp [h]
theorem pgs_at (t : ByteArray) (bl : List Int) (k : Nat) (h : k < bl.length) : (pgs t bl).getD k (0, ⟨#[]⟩) = (bl.getD (k + 1) 0, t.extract (500 * k) (min (500 * k + 500) t.size)) := by
  unfold pgs
  rw [List.getD_eq_getElem?_getD, List.getElem?_map, List.getElem?_eq_getElem (by rw [List.length_range]; exact h)]
  simp
theorem fit_chain (nx : Int) (d : ByteArray) (h1 : d.size ≠ 0) (h2 : d.size ≤ 500) (h3 : nx = 0 ∨ blkB nx = true) : fitB (ndC (nx, d)) = true := by
  have hc : chB (ndC (nx, d)) = true := (ch_iff _).2 ⟨rfl, h1, h2, rfl, rfl, rfl, rfl, by
    rcases h3 with h | h
    · rw [show (ndC (nx, d)).next = nx from rfl, decide_eq_true h]; rfl
    · rw [show (ndC (nx, d)).next = nx from rfl, h, Bool.or_true]⟩
  have hl : ¬ leafB (ndC (nx, d)) = true := fun h => by have := ((leaf_iff _).1 h).k; simp [ndC] at this
  have hi : ¬ innB (ndC (nx, d)) = true := fun h => by have := ((inn_iff _).1 h).k; simp [ndC] at this
  unfold fitB sizeN
  rw [if_neg hl, if_neg hi, if_pos hc, decide_eq_true (by omega), decide_eq_true (by show ((12 + d.size : Nat) : Int) ≤ 512; omega)]
  rfl
theorem kept_setCells (b : Nat) : ∀ (vs : List Value) (o : Nat) (w : World), Kept (fun y => y = b) w (w.setCells b o vs)
  | [], _, w => Kept.refl _ w
  | v :: r, o, w => (kept_set (F := fun y => y = b) w ⟨b, o, none⟩ v rfl).trans (kept_setCells b r (o + 1) _) (fun _ _ h => h)
def setL : List Value → Nat → List Value → List Value
  | cur, _, [] => cur
  | cur, o, v :: r => setL (cur.set o v) (o + 1) r
theorem setL_length : ∀ (vs : List Value) (o : Nat) (cur : List Value), (setL cur o vs).length = cur.length
  | [], _, _ => rfl
  | v :: r, o, cur => by rw [setL, setL_length r, List.length_set]
theorem setL_at : ∀ (vs : List Value) (o : Nat) (cur : List Value), o + vs.length ≤ cur.length → ∀ j, (setL cur o vs)[j]? = if o ≤ j ∧ j < o + vs.length then vs[j - o]? else cur[j]?
  | [], o, cur, _, j => by rw [setL, if_neg (by simp)]
  | v :: r, o, cur, h, j => by
    have h' : o + (r.length + 1) ≤ cur.length := by simpa using h
    rw [setL, setL_at r (o + 1) _ (by rw [List.length_set]; omega), List.length_cons]
    by_cases q : o = j
    · subst q
      rw [if_neg (by omega), if_pos (by omega), List.getElem?_set_self (by omega)]
      simp
    · by_cases q2 : o + 1 ≤ j ∧ j < o + 1 + r.length
      · rw [if_pos q2, if_pos (by omega), show j - o = (j - (o + 1)) + 1 by omega, List.getElem?_cons_succ]
      · rw [if_neg q2, if_neg (by omega), List.getElem?_set_ne q]
theorem setCells_heap (b : Nat) (t : TypeId) : ∀ (vs : List Value) (o : Nat) (w : World) (cur : Array Value), w.heap[b]? = some (.cells cur t (0, 0)) → (w.setCells b o vs).heap[b]? = some (.cells (setL cur.toList o vs).toArray t (0, 0))
  | [], o, w, cur, h => by rw [World.setCells, h]; simp [setL]
  | v :: r, o, w, cur, h => by
    rw [World.setCells]
    have h1 : (w.setCell ⟨b, o, none⟩ v).heap[b]? = some (.cells (cur.setIfInBounds o v) t (0, 0)) := by
      rw [heap_setCell_same _ _ _ _ _ _ h]
    rw [setCells_heap b t r (o + 1) _ _ h1, setL]
    simp
theorem OwnC.put {B : Nat} {w : World} {g n cap : Nat} {ps : List Cp} (H : OwnC B w (.slice (some ⟨g, 0, none⟩) n cap) ps) (k : Nat) (hk : k < ps.length) (q : Cp) : OwnC B (w.setCells g (k * 7) (encC q)) (.slice (some ⟨g, 0, none⟩) n cap) (ps.set k q) ∧ w.there g (k * 7) 7 := by
  obtain ⟨_, ⟨hv, hn⟩ | ⟨g', cap', cur, hv, hb, hg, hn, hm, hs, ht⟩⟩ := H
  · cases hv
  · simp only [Value.slice.injEq, Option.some.injEq, Addr.mk.injEq, and_true] at hv
    obtain ⟨rfl, rfl, rfl⟩ := hv
    have hcl : cur.toList.length = cap * 7 := by rw [Array.length_toList]; exact hs
    refine ⟨⟨by rw [cellsC_length], .inr ⟨g, cap, _, by rw [List.length_set], hb, setCells_heap g _ (encC q) (k * 7) w cur hg, by rw [List.length_set]; exact hn, hm, by rw [List.size_toArray, setL_length, hcl], ?_⟩⟩, fun j hj => ?_⟩
    · rw [List.length_set]
      apply List.ext_getElem?
      intro j
      rw [List.getElem?_take]
      by_cases hj : j < ps.length * 7
      · rw [if_pos hj, setL_at _ _ _ (by rw [hcl]; simp [encC]; omega)]
        have e1 : j = j / 7 * 7 + j % 7 := by omega
        have h7 : j % 7 < 7 := Nat.mod_lt _ (by decide)
        rw [e1, cellsC_at (ps.set k q) (j / 7) (j % 7) (by rw [List.length_set]; omega) h7]
        by_cases hjk : j / 7 = k
        · rw [if_pos (by simp [encC]; omega), hjk, List.getD_eq_getElem?_getD, List.getElem?_set_self hk, show k * 7 + j % 7 - k * 7 = j % 7 by omega]
          rfl
        · rw [if_neg (by simp [encC]; omega), List.getD_eq_getElem?_getD, List.getElem?_set_ne (fun e => hjk e.symm), ← List.getD_eq_getElem?_getD, ← cellsC_at ps (j / 7) (j % 7) (by omega) h7, ← ht, List.getElem?_take, if_pos (by omega)]
      · rw [if_neg hj, List.getElem?_eq_none (by rw [cellsC_length, List.length_set]; omega)]
    · refine ⟨?_, frozen_of_row _ _ _ _ _ hg⟩
      rw [cell_of_row w g _ cur _ _ hg, Array.getElem?_eq_getElem (by rw [hs]; omega)]
      rfl
/-- A row of nodes of whatever kind. -/
def OwnG (B : Nat) (w : World) (v : Value) (n : Nat) (cs : List Value) : Prop := w.ownsRow B 27 7 v n cs
def kramC : List Value := [.int .i64 2, .slice none 0 0, .slice none 0 0, .slice none 0 0, .slice none 0 0, .int .i64 0, .string ⟨#[107, 114, 97, 109]⟩]
theorem kramC_one : ∀ u ∈ kramC, u.oneCell' = true := by
  intro u hu
  simp only [kramC, List.mem_cons, List.not_mem_nil, or_false] at hu
  rcases hu with rfl | rfl | rfl | rfl | rfl | rfl | rfl <;> rfl
theorem app_kram {ops : Array Oper} {rest : List Oper} {o : Oper} {a : Act} {Q : Exit → Act → World → Prop} (hgd : o.guard = none) (s x : Operand)
    (ho : o.op = .call { callee := .builtin .append, args := #[s, x], argTypes := #[36, 36] })
    {B : Nat} {w0 : World} {v : Value} {n : Nat} {cs : List Value} (hs : a.eval s = v) (hown : OwnG B w0 v n cs) (hB : B ≤ w0.heap.size)
    (hx : a.eval x = .slice (some ⟨w0.heap.size, 0, none⟩) 1 1) (hl : n ≤ 1000000)
    (h : ∀ v' w', Hid (OwnG B w' v' (n + 1) (cs ++ kramC) ∧ w0.grownBy w' v.ownBlock ∧ At v v' w0) → wpList Try.prog ops Q rest (a.put o.dst v') w') :
    wpList Try.prog ops Q (o :: rest) a (w0.alloc (.cells #[.int .i64 2, .slice none 0 0, .slice none 0 0, .slice none 0 0, .slice none 0 0, .int .i64 0, .string ⟨#[107, 114, 97, 109]⟩] 27)) := by
  obtain ⟨i0, hi, hz0, hz1, hz2⟩ := info_parts info_node
  refine wpList_append_own_at _ hgd s x 36 ho B 27 i0 _ 7 128 Try.underlying36 hi hz0 hz1 hz2 rfl (by decide) v n cs hs (World.ownsRow.alloc hown _) ⟨w0.heap.size, 0, none⟩ 1 1 kramC hx rfl ?_ kramC_one (by unfold maxLen; omega) (by omega) (by simp; omega) ?_
  · intro j u hj
    rw [add_plain, Nat.zero_add, World.cell?_alloc_new, ← Array.getElem?_toList]; exact hj
  · intro v' w' h1 h2 _ h3
    exact h v' w' (Lib.hid ⟨h1, grown_alloc h2, at_of h3 (by simp)⟩)
theorem OwnG.at {B : Nat} {w : World} {v : Value} {n : Nat} {cs : List Value} (H : OwnG B w v n cs) (hn : 0 < n) : ∃ g cap, v = .slice (some ⟨g, 0, none⟩) n cap ∧ n ≤ cap ∧ cap ≤ 9223372036854775807 ∧ ∀ j u, cs[j]? = some u → w.cell? ⟨g, j, none⟩ = some u := by
  obtain ⟨_, ⟨_, hn'⟩ | ⟨g, cap, cur, hv, hb, hg, hn', hm, hs, ht⟩⟩ := H
  · omega
  · refine ⟨g, cap, hv, hn', by unfold maxLen at hm; omega, fun j u hj => ?_⟩
    rw [cell_of_row w g _ cur _ _ hg, ← Array.getElem?_toList]
    rw [← ht, List.getElem?_take] at hj
    split at hj
    · exact hj
    · cases hj
theorem OwnG.kept {B : Nat} {F : Nat → Prop} {w w' : World} {v : Value} {n : Nat} {l : List Value} (H : OwnG B w v n l) (hk : Kept F w w') (hF : ∀ k, v.ownBlock = some k → ¬ F k) : OwnG B w' v n l := by
  obtain ⟨h1, h | ⟨g, cap, cur, hv, hB, hg, hr⟩⟩ := H
  · exact ⟨h1, .inl h⟩
  · subst hv
    exact ⟨h1, .inr ⟨g, cap, cur, rfl, hB, by rw [hk.block g (lt_of_heap hg) (hF g rfl)]; exact hg, hr⟩⟩
theorem OwnC.row {B : Nat} {w : World} {v : Value} {l : List Cp} (h : OwnC B w v l) {g : Nat} (hg : v.ownBlock = some g) : ∃ cur, w.heap[g]? = some (.cells cur 27 (0, 0)) := by
  obtain ⟨_, ⟨hv, _⟩ | ⟨g', cap, cur, hv, _, hh, _⟩⟩ := h
  · rw [hv] at hg; cases hg
  · rw [hv] at hg
    have e1 : g' = g := by injection hg
    subst e1
    exact ⟨cur, hh⟩
/-- Numbers behind a piece of a row: into a new one. -/
theorem app_grows {ops : Array Oper} {rest : List Oper} {o : Oper} {a : Act} {Q : Exit → Act → World → Prop} (hgd : o.guard = none) (s x : Operand)
    (ho : o.op = .call { callee := .builtin .append, args := #[s, x], argTypes := #[23, 23] })
    {w0 : World} {ad : Option Addr} {n : Nat} {l : List Int} (m : Int) (hs : a.eval s = .slice ad n n) (hv : Ints w0 (.slice ad n n) l)
    (hx : a.eval x = .slice (some ⟨w0.heap.size, 0, none⟩) 1 1) (hl : n ≤ 1000000)
    (h : ∀ v' w', Hid (OwnI w0.heap.size w' v' (l ++ [m]) ∧ Below w0.heap.size w0 w') → wpList Try.prog ops Q rest (a.put o.dst v') w') :
    wpList Try.prog ops Q (o :: rest) a (w0.alloc (.cells #[.int .i64 m] 3)) := by
  obtain ⟨i0, hi, hz0, hz1, hz2⟩ := info_parts info_int
  have hb : Below w0.heap.size w0 (w0.alloc (.cells #[.int .i64 m] 3)) := (Below.refl _ _).alloc (Nat.le_refl _) _
  obtain ⟨a', cap', e', h1, h2, h0, hc⟩ := hv.below hb
  simp only [Value.slice.injEq] at e'
  obtain ⟨rfl, rfl, rfl⟩ := e'
  refine wpList_append_grows _ hgd s x 23 ho 3 i0 (.int .i64 0) 1 8 Try.underlying23 hi hz0 hz1 hz2 rfl (by decide) ad l.length l.length (cellsI l) hs (fun e => ⟨h0 e, h0 e⟩) (by rw [cellsI_length, Nat.mul_one]) ?_ ⟨w0.heap.size, 0, none⟩ 1 1 (cellsI [m]) hx rfl ?_ (cellsI_one [m]) (by omega) (by unfold maxLen; omega) (by omega) ?_
  · intro b hb j u hj
    subst hb
    exact newsI hc j u hj
  · intro j u hj
    rw [add_plain, Nat.zero_add, World.cell?_alloc_new, ← Array.getElem?_toList]; exact hj
  · intro v' w' h1 h2
    have hk := (grown_kept h2).below (B := w0.heap.size) (by simp) (fun x hx => by cases hx)
    refine h v' w' (Lib.hid ⟨?_, hb.trans hk⟩)
    have o2 : OwnI (w0.alloc (.cells #[.int .i64 m] 3)).heap.size w' v' (l ++ [m]) := by
      show w'.ownsRow _ _ _ _ _ _
      rw [cellsI_app, List.length_append]; exact h1
    exact o2.mono (by simp)
theorem step_grows {ops : Array Oper} {o : Oper} {a : Act} {K : Act → World → Prop} {Q : Exit → Act → World → Prop} {E : Prop} (hgd : o.guard = none) (s x : Operand)
    (ho : o.op = .call { callee := .builtin .append, args := #[s, x], argTypes := #[23, 23] })
    {w0 : World} {b off n : Nat} {l : List Int} (m : Int) (hs : a.eval s = .slice (some ⟨b, off, none⟩) n n) (hv : Ints w0 (.slice (some ⟨b, off, none⟩) n n) l)
    (hx : a.eval x = .slice (some ⟨w0.heap.size, 0, none⟩) 1 1) (hl : n ≤ 1000000)
    (h : ∀ a' n' c' w', Hid (OwnI w0.heap.size w' (.slice a' n' c') (l ++ [m]) ∧ Below w0.heap.size w0 w') → K (a.put o.dst (.slice a' n' c')) w') :
    if Region.wanted o (yielded ops a.tmps) = true then Oper.wp Try.prog o a (w0.alloc (.cells #[.int .i64 m] 3)) K Q else E := by
  have hw : Region.wanted o (yielded ops a.tmps) = true := by simp [Region.wanted, hgd]
  rw [if_pos hw]
  obtain ⟨i0, hi, hz0, hz1, hz2⟩ := info_parts info_int
  have hb : Below w0.heap.size w0 (w0.alloc (.cells #[.int .i64 m] 3)) := (Below.refl _ _).alloc (Nat.le_refl _) _
  obtain ⟨a', cap', e', h1, h2, h0, hc⟩ := hv.below hb
  simp only [Value.slice.injEq] at e'
  obtain ⟨e1, e2, e3⟩ := e'
  subst e1 e2
  obtain ⟨v', w', hr, r1, r2⟩ := run_append_arg_grows (P := Try.prog) (w0.alloc (.cells #[.int .i64 m] 3)) 23 o.type 3 i0 (.int .i64 0) 1 8 Try.underlying23 hi hz0 hz1 hz2 rfl (by decide) ⟨b, off, none⟩ l.length l.length (cellsI l) (by rw [cellsI_length, Nat.mul_one]) (newsI hc) ⟨w0.heap.size, 0, none⟩ 1 1 (cellsI [m]) rfl (fun j u hj => by rw [add_plain, Nat.zero_add, World.cell?_alloc_new, ← Array.getElem?_toList]; exact hj) (by omega) (by unfold maxLen; omega) (by omega)
  unfold Oper.wp execOp
  simp only [ho, resolve, invoke, builtin, Sem.run_bind, Sem.run_pure, Result.andThen_ok, List.map_toArray, List.map_cons, List.map_nil, hs, hx, hr]
  have hk := (grown_kept r2).below (B := w0.heap.size) (by simp) (fun x hx => by cases hx)
  have o2 : OwnI (w0.alloc (.cells #[.int .i64 m] 3)).heap.size w' v' (l ++ [m]) := by
    show w'.ownsRow _ _ _ _ _ _
    rw [cellsI_app, List.length_append]; exact r1
  obtain ⟨a7, c7, h7, _⟩ := o2.len
  subst h7
  exact h _ _ _ w' (Lib.hid ⟨o2.mono (by simp), hb.trans hk⟩)
theorem Ints.clip {w : World} {a : Option Addr} {n cap : Nat} {l : List Int} (H : Ints w (.slice a n cap) l) (k : Nat) (hk : k ≤ n) : Ints w (.slice a k cap) (l.take k) ∧ (0 < k → Ints w (.slice a k k) (l.take k)) := by
  obtain ⟨a', cap', e', h1, h2, h0, hc⟩ := H
  simp only [Value.slice.injEq] at e'
  obtain ⟨rfl, rfl, rfl⟩ := e'
  have tl : (l.take k).length = k := by rw [List.length_take]; omega
  have hcc : ∀ i, i < (l.take k).length → ∃ b off, a = some ⟨b, off, none⟩ ∧ w.cell? ⟨b, off + i, none⟩ = some (.int .i64 ((l.take k).getD i 0)) := fun i hi => by
    rw [tl] at hi
    obtain ⟨b, off, ea, c0⟩ := hc i (by omega)
    refine ⟨b, off, ea, ?_⟩
    rw [c0, List.getD_eq_getElem?_getD, List.getD_eq_getElem?_getD, List.getElem?_take_of_lt hi]
  refine ⟨⟨a, cap, by rw [tl], by rw [tl]; omega, h2, h0, hcc⟩, fun h => ⟨a, k, by rw [tl], by rw [tl]; exact Nat.le_refl _, by omega, fun e => ?_, hcc⟩⟩
  obtain ⟨b, off, ea, _⟩ := hc 0 (by omega)
  rw [e] at ea
  cases ea
end Go.Proofs.Ytindkmgoiiicaaa
