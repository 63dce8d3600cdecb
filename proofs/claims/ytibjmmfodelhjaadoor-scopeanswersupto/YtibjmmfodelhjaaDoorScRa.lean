/-
  The document's sums, as data: rows in the order in which the names first come up; lists sorted by insertion.
-/
import Derived.Test.YtibjmmfodelhjaaDoorScC
namespace Go.Proofs.YtibjmmfodelhjaaDoor
open Go.RowKit
def stepF (acc : List (List UInt8)) (e : En) : List (List UInt8) := if e.1 ∈ acc then acc else acc ++ [e.1]
def nmF (es : List En) : List (List UInt8) := es.foldl stepF []
theorem nmF_snoc (es : List En) (e : En) : nmF (es ++ [e]) = stepF (nmF es) e := by unfold nmF; rw [List.foldl_append]; rfl
theorem mem_fold (es : List En) : ∀ acc n, n ∈ es.foldl stepF acc ↔ n ∈ acc ∨ n ∈ es.map Prod.fst := by
  induction es with
  | nil => intro acc n; simp
  | cons e r ih =>
    intro acc n
    rw [List.foldl_cons, ih, List.map_cons, List.mem_cons]
    unfold stepF
    split
    · rename_i h
      constructor
      · rintro (q | q)
        · exact Or.inl q
        · exact Or.inr (Or.inr q)
      · rintro (q | q | q)
        · exact Or.inl q
        · exact Or.inl (by rw [q]; exact h)
        · exact Or.inr q
    · rw [List.mem_append, List.mem_singleton]
      constructor
      · rintro ((q | q) | q)
        · exact Or.inl q
        · exact Or.inr (Or.inl q)
        · exact Or.inr (Or.inr q)
      · rintro (q | q | q)
        · exact Or.inl (Or.inl q)
        · exact Or.inl (Or.inr q)
        · exact Or.inr q
theorem mem_nmF (es : List En) (n : List UInt8) : n ∈ nmF es ↔ n ∈ es.map Prod.fst := by
  unfold nmF; rw [mem_fold]; simp
theorem nodup_fold (es : List En) : ∀ acc : List (List UInt8), acc.Nodup → (es.foldl stepF acc).Nodup := by
  induction es with
  | nil => intro acc h; exact h
  | cons e r ih =>
    intro acc h
    rw [List.foldl_cons]
    refine ih _ ?_
    unfold stepF
    split
    · exact h
    · rename_i q
      refine List.nodup_append.2 ⟨h, by simp, ?_⟩
      intro a ha b hb
      rw [List.mem_singleton] at hb
      subst hb
      exact fun e => q (by rw [← e]; exact ha)
theorem nmF_nodup (es : List En) : (nmF es).Nodup := nodup_fold es [] (by simp)
theorem len_fold (es : List En) : ∀ acc : List (List UInt8), (es.foldl stepF acc).length ≤ acc.length + es.length := by
  induction es with
  | nil => intro acc; simp
  | cons e r ih =>
    intro acc
    rw [List.foldl_cons]
    have h := ih (stepF acc e)
    have h2 : (stepF acc e).length ≤ acc.length + 1 := by unfold stepF; split <;> simp
    simp only [List.length_cons]
    omega
theorem nmF_len (es : List En) : (nmF es).length ≤ es.length := by have := len_fold es []; simpa [nmF] using this
/-- The names, sorted, are those that are told. -/
theorem nmF_sort {es : List En} {N : List (List UInt8)} (hp : N.Perm (nmF es)) (hs : N.Pairwise (fun x y => x ≤ y)) : N = nmsOf es := by
  have h := nms_of_perm (es := es) (ss := N) (hp.nodup_iff.2 (nmF_nodup es)) (fun n => by rw [hp.mem_iff, mem_nmF])
  rw [← h]
  exact (List.mergeSort_of_pairwise (hs.imp (fun q => decide_eq_true q))).symm
structure Rw where
  n : ByteArray
  h : Int
  l : Int
def HH : Int := 4294967296
def rwV (n : List UInt8) (t : Int) : Rw := ⟨⟨n.toArray⟩, t / HH, t % HH⟩
def rws (es : List En) : List Rw := (nmF es).map fun n => rwV n (Tot es n)
theorem rws_len (es : List En) : (rws es).length = (nmF es).length := by simp [rws]
def rwZ : Rw := ⟨⟨#[]⟩, 0, 0⟩
theorem rws_at (es : List En) (k : Nat) (h : k < (nmF es).length) : (rws es).getD k rwZ = rwV ((nmF es).getD k []) (Tot es ((nmF es).getD k [])) := by
  unfold rws
  rw [List.getD_eq_getElem?_getD, List.getElem?_map, List.getElem?_eq_getElem h, List.getD_eq_getElem?_getD, List.getElem?_eq_getElem h]; rfl
theorem nmF_inj (es : List En) {i j : Nat} (hi : i < (nmF es).length) (hj : j < (nmF es).length) (h : (nmF es).getD i [] = (nmF es).getD j []) : i = j := by
  rw [getD_ge _ _ _ hi, getD_ge _ _ _ hj] at h
  exact (List.getElem_inj (nmF_nodup es)).1 h
theorem map_set_one {α β : Type} (l : List α) (hl : l.Nodup) (f g : α → β) (p : Nat) (hp : p < l.length) (h : ∀ x ∈ l, x ≠ l[p] → f x = g x) : l.map g = (l.map f).set p (g l[p]) := by
  apply List.ext_getElem
  · simp
  · intro i h1 h2
    rw [List.getElem_set, List.getElem_map]
    by_cases e : p = i
    · subst e; rw [if_pos rfl]
    · rw [if_neg e, List.getElem_map]
      simp only [List.length_map] at h1
      exact (h _ (List.getElem_mem h1) (fun q => e ((List.getElem_inj hl).1 q).symm)).symm
/-- One entry more: its name has a row, or one is laid. -/
theorem rws_old (es : List En) (m : List UInt8) (v : Int) (p : Nat) (hp : p < (nmF es).length) (e : (nmF es).getD p [] = m) : rws (es ++ [(m, v)]) = (rws es).set p (rwV m (Tot es m + v)) := by
  have hm : m ∈ nmF es := by rw [← e, getD_ge _ _ _ hp]; exact List.getElem_mem hp
  unfold rws
  rw [nmF_snoc]
  unfold stepF
  rw [if_pos hm]
  rw [getD_ge _ _ _ hp] at e
  rw [map_set_one (nmF es) (nmF_nodup es) (fun n => rwV n (Tot es n)) (fun n => rwV n (Tot (es ++ [(m, v)]) n)) p hp]
  · simp only [e]
    rw [Tot_app, Tot_one, if_pos rfl]
  · intro x _ hx
    rw [Tot_app, Tot_one, if_neg (by simp only; intro q; exact hx (by rw [e, q])), Int.add_zero]
theorem rws_new (es : List En) (m : List UInt8) (v : Int) (h : m ∉ nmF es) : rws (es ++ [(m, v)]) = (rws es ++ [(⟨⟨m.toArray⟩, 0, 0⟩ : Rw)]).set (rws es).length (rwV m v) := by
  unfold rws
  rw [nmF_snoc]
  unfold stepF
  rw [if_neg h, List.map_append, List.set_append_right _ _ (Nat.le_refl _), Nat.sub_self]
  congr 1
  · refine List.map_congr_left fun n hn => ?_
    rw [Tot_app, Tot_one, if_neg (by simp only; intro q; exact h (by rw [q]; exact hn)), Int.add_zero]
  · simp only [List.map_cons, List.map_nil, List.set_cons_zero]
    rw [Tot_app, Tot_one, if_pos rfl, Tot_none (fun q => h ((mem_nmF _ _).2 q))]
    simp
theorem half_step (t v : Int) : t / HH + v / HH + (t % HH + v % HH) / HH = (t + v) / HH ∧ (t % HH + v % HH) % HH = (t + v) % HH := by
  unfold HH; omega
theorem half_over (t : Int) : (2147483648 ≤ t / HH) ↔ maxA < t := by unfold HH maxA; omega
theorem half_val (t : Int) : t / HH * HH + t % HH = t := by unfold HH; omega
/-- Insertion from the end. -/
def insAt {α : Type} (N : List α) (a : α) (j : Nat) : List α := N.take j ++ a :: N.drop j
theorem insAt_len {α : Type} (N : List α) (a : α) (j : Nat) (h : j ≤ N.length) : (insAt N a j).length = N.length + 1 := by unfold insAt; simp; omega
theorem insAt_end {α : Type} (N : List α) (a : α) : insAt N a N.length = N ++ [a] := by simp [insAt]
theorem insAt_get {α : Type} (N : List α) (a d : α) (j : Nat) (h : j < N.length) : (insAt N a (j + 1)).getD j d = N.getD j d := by
  unfold insAt
  rw [List.getD_eq_getElem?_getD, List.getElem?_append_left (by simp; omega), List.getElem?_take_of_lt (by omega), List.getD_eq_getElem?_getD]
theorem insAt_step {α : Type} (N : List α) (a d : α) (j : Nat) (h : j < N.length) : ((insAt N a (j + 1)).set (j + 1) (N.getD j d)).set j a = insAt N a j := by
  unfold insAt
  have e1 : (N.take (j + 1)).length = j + 1 := by simp; omega
  rw [List.set_append_right _ _ (by omega), e1, Nat.sub_self, List.set_cons_zero, List.set_append_left _ _ (by omega), take_onez N j d h, List.set_append_right _ _ (by simp; omega)]
  have e2 : (N.take j).length = j := by simp; omega
  rw [e2, Nat.sub_self, List.set_cons_zero, List.append_assoc, List.singleton_append]
  congr 2
  rw [List.drop_eq_getElem_cons h, getD_ge _ _ _ h]
theorem insAt_map {α β : Type} (f : α → β) (N : List α) (a : α) (j : Nat) : (insAt N a j).map f = insAt (N.map f) (f a) j := by
  unfold insAt; simp [List.map_take, List.map_drop]
theorem insAt_perm {α : Type} (N : List α) (a : α) (j : Nat) : (insAt N a j).Perm (N ++ [a]) := by
  unfold insAt
  refine List.perm_middle.trans ?_
  rw [List.take_append_drop]
  exact (List.perm_append_singleton a N).symm
theorem insAt_sorted (N : List (List UInt8)) (a : List UInt8) (j : Nat) (hj : j ≤ N.length) (hs : N.Pairwise (fun x y => x ≤ y)) (hl : ∀ i, i + 1 = j → N.getD i [] ≤ a) (hr : ∀ i, j ≤ i → i < N.length → a < N.getD i []) : (insAt N a j).Pairwise (fun x y => x ≤ y) := by
  unfold insAt
  have hs' := hs
  rw [← List.take_append_drop j N, List.pairwise_append] at hs'
  obtain ⟨h1, h2, h3⟩ := hs'
  have hR : ∀ y ∈ N.drop j, a ≤ y := by
    intro y hy
    obtain ⟨i, hi, rfl⟩ := List.getElem_of_mem hy
    rw [List.getElem_drop]
    simp only [List.length_drop] at hi
    have q := hr (j + i) (by omega) (by omega)
    rw [getD_ge _ _ _ (by omega)] at q
    exact List.le_of_lt q
  have hL : ∀ x ∈ N.take j, x ≤ a := by
    intro x hx
    rcases Nat.eq_zero_or_pos j with e | e
    · subst e; simp at hx
    · obtain ⟨i, rfl⟩ : ∃ i, j = i + 1 := ⟨j - 1, by omega⟩
      have q := hl i rfl
      rw [getD_ge _ _ _ (by omega)] at q
      obtain ⟨k, hk, rfl⟩ := List.getElem_of_mem hx
      simp only [List.length_take] at hk
      rw [List.getElem_take]
      rcases Nat.lt_or_ge k i with hki | hki
      · exact List.le_trans (List.pairwise_iff_getElem.1 hs k i (by omega) (by omega) hki) q
      · have : k = i := by omega
        subst this
        exact q
  refine List.pairwise_append.2 ⟨h1, List.pairwise_cons.2 ⟨hR, h2⟩, ?_⟩
  intro x hx y hy
  rcases List.mem_cons.1 hy with rfl | hy
  · exact hL x hx
  · exact h3 x hx y hy
end Go.Proofs.YtibjmmfodelhjaaDoor
