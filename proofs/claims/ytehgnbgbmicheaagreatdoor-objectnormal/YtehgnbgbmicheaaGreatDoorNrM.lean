/-
  Sums over lists of names and amounts (scope's ScM, ScRa, their plain part); sorted lists.
-/
import Derived.Test.YtehgnbgbmicheaaGreatDoorObD
import Derived.Sort.KeysCollected
namespace Go.Proofs.YtehgnbgbmicheaaGreatDoor
open Go.RowKit
abbrev En := List UInt8 × Int
/-- The sum of what stands under a name. -/
def Tot : List En → List UInt8 → Int
  | [], _ => 0
  | e :: r, n => (if e.1 = n then e.2 else 0) + Tot r n
theorem Tot_app (es fs : List En) (n : List UInt8) : Tot (es ++ fs) n = Tot es n + Tot fs n := by
  induction es with
  | nil => simp [Tot]
  | cons e r ih => rw [List.cons_append, Tot, Tot, ih]; omega
theorem Tot_one (e : En) (n : List UInt8) : Tot [e] n = if e.1 = n then e.2 else 0 := by simp [Tot]
theorem Tot_pos {es : List En} (h : ∀ e ∈ es, 0 ≤ e.2) (n : List UInt8) : 0 ≤ Tot es n := by
  induction es with
  | nil => simp [Tot]
  | cons e r ih =>
    rw [Tot]
    have h1 := h e (by simp)
    have h2 := ih (fun x hx => h x (by simp [hx]))
    split <;> omega
theorem Tot_none {es : List En} {n : List UInt8} (h : n ∉ es.map Prod.fst) : Tot es n = 0 := by
  induction es with
  | nil => simp [Tot]
  | cons e r ih =>
    simp only [List.map_cons, List.mem_cons, not_or] at h
    rw [Tot, if_neg (fun q => h.1 q.symm), ih h.2]; rfl
theorem Tot_perm {es fs : List En} (h : es.Perm fs) (n : List UInt8) : Tot es n = Tot fs n := by
  induction h with
  | nil => rfl
  | cons x _ ih => rw [Tot, Tot, ih]
  | swap x y l => simp only [Tot]; omega
  | trans _ _ a b => rw [a, b]
def ded : List (List UInt8) → List (List UInt8)
  | [] => []
  | x :: r => if x ∈ ded r then ded r else x :: ded r
theorem mem_ded (l : List (List UInt8)) : ∀ x : List UInt8, x ∈ ded l ↔ x ∈ l := by
  induction l with
  | nil => intro x; simp [ded]
  | cons y r ih =>
    intro x
    rw [ded, List.mem_cons]
    split
    · rename_i h
      rw [ih x]
      exact ⟨Or.inr, fun q => q.elim (fun e => by rw [e]; exact (ih y).1 h) id⟩
    · rw [List.mem_cons, ih x]
theorem ded_nodup (l : List (List UInt8)) : (ded l).Nodup := by
  induction l with
  | nil => simp [ded]
  | cons y r ih =>
    rw [ded]
    split
    · exact ih
    · rename_i h; exact List.nodup_cons.2 ⟨h, ih⟩
/-- The names, rising, none twice. -/
def nmsOf (es : List En) : List (List UInt8) := (ded (es.map Prod.fst)).mergeSort fun x y => decide (x ≤ y)
theorem nms_of_perm {es : List En} {ss : List (List UInt8)} (hd : ss.Nodup) (hm : ∀ n, n ∈ ss ↔ n ∈ es.map Prod.fst) : ss.mergeSort (fun x y => decide (x ≤ y)) = nmsOf es :=
  mergeSort_of_perm ((List.perm_ext_iff_of_nodup hd (ded_nodup _)).2 fun x => by rw [hm, mem_ded])
theorem mem_nms (es : List En) (n : List UInt8) : n ∈ nmsOf es ↔ n ∈ es.map Prod.fst := by
  unfold nmsOf; rw [(List.mergeSort_perm _ _).mem_iff, mem_ded]
theorem nms_nodup (es : List En) : (nmsOf es).Nodup := (List.mergeSort_perm _ _).nodup_iff.2 (ded_nodup _)
theorem nms_rise (es : List En) : (nmsOf es).Pairwise (fun x y => x < y) := by
  have tr : ∀ a b c : List UInt8, leB a b = true → leB b c = true → leB a c = true := fun a b c h1 h2 => by simp only [leB, decide_eq_true_eq] at *; exact List.le_trans h1 h2
  have to : ∀ a b : List UInt8, (leB a b || leB b a) = true := fun a b => by simp only [leB, Bool.or_eq_true, decide_eq_true_eq]; exact List.le_total a b
  have h := List.pairwise_mergeSort tr to (ded (es.map Prod.fst))
  have hn : (nmsOf es).Pairwise (· ≠ ·) := nms_nodup es
  refine (h.and hn).imp ?_
  rintro a b ⟨h1, h2⟩
  simp only [leB, decide_eq_true_eq] at h1
  exact Classical.byContradiction fun q => h2 (List.le_antisymm h1 (List.not_lt.1 q))
/-- The list that is told. -/
def outL (es : List En) : List Am := (nmsOf es).map fun n => ⟨⟨n.toArray⟩, Tot es n⟩
theorem outL_perm {es fs : List En} (h : es.Perm fs) : outL es = outL fs := by
  have e1 : nmsOf es = nmsOf fs := nms_of_perm (ded_nodup _) (fun n => by rw [mem_ded]; exact (h.map Prod.fst).mem_iff)
  unfold outL
  rw [e1]
  exact List.map_congr_left fun n _ => by rw [Tot_perm h n]
def maxA : Int := 9223372036854775807
def Ov (es : List En) : Prop := ∃ n, maxA < Tot es n
theorem Ov_app {es fs : List En} (h : Ov es) (hp : ∀ e ∈ fs, 0 ≤ e.2) : Ov (es ++ fs) := by
  obtain ⟨n, hn⟩ := h
  exact ⟨n, by rw [Tot_app]; have := Tot_pos hp n; omega⟩
theorem ded_len (l : List (List UInt8)) : (ded l).length ≤ l.length := by
  induction l with
  | nil => simp [ded]
  | cons y r ih => rw [ded]; split <;> simp <;> omega
theorem nms_len (es : List En) : (nmsOf es).length ≤ es.length := by
  unfold nmsOf; rw [List.length_mergeSort]; have := ded_len (es.map Prod.fst); simpa using this
theorem out_len (es : List En) : (outL es).length = (nmsOf es).length := by simp [outL]
theorem getD_ge {β : Type} (l : List β) (k : Nat) (d : β) (h : k < l.length) : l.getD k d = l[k] := by
  rw [List.getD_eq_getElem?_getD, List.getElem?_eq_getElem h]; rfl
def stepF (acc : List (List UInt8)) (e : En) : List (List UInt8) := if e.1 ∈ acc then acc else acc ++ [e.1]
def nmF (es : List En) : List (List UInt8) := es.foldl stepF []
theorem nmF_snoc (es : List En) (e : En) : nmF (es ++ [e]) = stepF (nmF es) e := by unfold nmF; rw [List.foldl_append]; rfl
theorem mem_fold (es : List En) : ∀ acc n, n ∈ es.foldl stepF acc ↔ n ∈ acc ∨ n ∈ es.map Prod.fst := by
  induction es with
  | nil => intro acc n; simp
  | cons e r ih =>
    intro acc n
    rw [List.foldl_cons, ih, List.map_cons, List.mem_cons]
    unfold stepF
    split
    · rename_i h
      constructor
      · rintro (q | q)
        · exact Or.inl q
        · exact Or.inr (Or.inr q)
      · rintro (q | q | q)
        · exact Or.inl q
        · exact Or.inl (by rw [q]; exact h)
        · exact Or.inr q
    · rw [List.mem_append, List.mem_singleton]
      constructor
      · rintro ((q | q) | q)
        · exact Or.inl q
        · exact Or.inr (Or.inl q)
        · exact Or.inr (Or.inr q)
      · rintro (q | q | q)
        · exact Or.inl (Or.inl q)
        · exact Or.inl (Or.inr q)
        · exact Or.inr q
theorem mem_nmF (es : List En) (n : List UInt8) : n ∈ nmF es ↔ n ∈ es.map Prod.fst := by
  unfold nmF; rw [mem_fold]; simp
theorem nodup_fold (es : List En) : ∀ acc : List (List UInt8), acc.Nodup → (es.foldl stepF acc).Nodup := by
  induction es with
  | nil => intro acc h; exact h
  | cons e r ih =>
    intro acc h
    rw [List.foldl_cons]
    refine ih _ ?_
    unfold stepF
    split
    · exact h
    · rename_i q
      refine List.nodup_append.2 ⟨h, by simp, ?_⟩
      intro a ha b hb
      rw [List.mem_singleton] at hb
      subst hb
      exact fun e => q (by rw [← e]; exact ha)
theorem nmF_nodup (es : List En) : (nmF es).Nodup := nodup_fold es [] (by simp)
theorem len_fold (es : List En) : ∀ acc : List (List UInt8), (es.foldl stepF acc).length ≤ acc.length + es.length := by
  induction es with
  | nil => intro acc; simp
  | cons e r ih =>
    intro acc
    rw [List.foldl_cons]
    have h := ih (stepF acc e)
    have h2 : (stepF acc e).length ≤ acc.length + 1 := by unfold stepF; split <;> simp
    simp only [List.length_cons]
    omega
theorem nmF_len (es : List En) : (nmF es).length ≤ es.length := by have := len_fold es []; simpa [nmF] using this
/-- The names, sorted, are those that are told. -/
theorem nmF_sort {es : List En} {N : List (List UInt8)} (hp : N.Perm (nmF es)) (hs : N.Pairwise (fun x y => x ≤ y)) : N = nmsOf es := by
  have h := nms_of_perm (es := es) (ss := N) (hp.nodup_iff.2 (nmF_nodup es)) (fun n => by rw [hp.mem_iff, mem_nmF])
  rw [← h]
  exact (List.mergeSort_of_pairwise (hs.imp (fun q => decide_eq_true q))).symm
theorem nmF_inj (es : List En) {i j : Nat} (hi : i < (nmF es).length) (hj : j < (nmF es).length) (h : (nmF es).getD i [] = (nmF es).getD j []) : i = j := by
  rw [getD_ge _ _ _ hi, getD_ge _ _ _ hj] at h
  exact (List.getElem_inj (nmF_nodup es)).1 h
theorem map_set_one {α β : Type} (l : List α) (hl : l.Nodup) (f g : α → β) (p : Nat) (hp : p < l.length) (h : ∀ x ∈ l, x ≠ l[p] → f x = g x) : l.map g = (l.map f).set p (g l[p]) := by
  apply List.ext_getElem
  · simp
  · intro i h1 h2
    rw [List.getElem_set, List.getElem_map]
    by_cases e : p = i
    · subst e; rw [if_pos rfl]
    · rw [if_neg e, List.getElem_map]
      simp only [List.length_map] at h1
      exact (h _ (List.getElem_mem h1) (fun q => e ((List.getElem_inj hl).1 q).symm)).symm
theorem out_at (es : List En) (k : Nat) (h : k < (nmsOf es).length) : (outL es).getD k kAm.z = ⟨⟨((nmsOf es).getD k []).toArray⟩, Tot es ((nmsOf es).getD k [])⟩ := by
  unfold outL
  rw [List.getD_eq_getElem?_getD, List.getElem?_map, List.getElem?_eq_getElem h, List.getD_eq_getElem?_getD, List.getElem?_eq_getElem h]; rfl
/-- The amounts as entries. -/
def ent (l : List Am) : List En := l.map fun x => (x.n.data.toList, x.v)
theorem ent_app (l m : List Am) : ent (l ++ m) = ent l ++ ent m := by simp [ent]
theorem ent_perm {l m : List Am} (h : l.Perm m) : (ent l).Perm (ent m) := h.map _
def fAm (es : List En) (n : List UInt8) : Am := ⟨⟨n.toArray⟩, Tot es n⟩
/-- The sums, in the order in which the names first come up. -/
def sms (es : List En) : List Am := (nmF es).map (fAm es)
theorem sms_len (es : List En) : (sms es).length = (nmF es).length := by simp [sms]
theorem sms_at (es : List En) (k : Nat) (h : k < (nmF es).length) : (sms es).getD k kAm.z = fAm es ((nmF es).getD k []) := by
  unfold sms
  rw [List.getD_eq_getElem?_getD, List.getElem?_map, List.getElem?_eq_getElem h, List.getD_eq_getElem?_getD, List.getElem?_eq_getElem h]; rfl
theorem sms_old (es : List En) (m : List UInt8) (v : Int) (p : Nat) (hp : p < (nmF es).length) (e : (nmF es).getD p [] = m) : sms (es ++ [(m, v)]) = (sms es).set p ⟨⟨m.toArray⟩, Tot es m + v⟩ := by
  have hm : m ∈ nmF es := by rw [← e, getD_ge _ _ _ hp]; exact List.getElem_mem hp
  unfold sms
  rw [nmF_snoc]
  unfold stepF
  rw [if_pos hm]
  rw [getD_ge _ _ _ hp] at e
  rw [map_set_one (nmF es) (nmF_nodup es) (fAm es) (fAm (es ++ [(m, v)])) p hp]
  · unfold fAm
    simp only [e]
    rw [Tot_app, Tot_one, if_pos rfl]
  · intro x _ hx
    unfold fAm
    rw [Tot_app, Tot_one, if_neg (by simp only; intro q; exact hx (by rw [e, q])), Int.add_zero]
theorem sms_new (es : List En) (m : List UInt8) (v : Int) (h : m ∉ nmF es) : sms (es ++ [(m, v)]) = sms es ++ [(⟨⟨m.toArray⟩, v⟩ : Am)] := by
  unfold sms
  rw [nmF_snoc]
  unfold stepF
  rw [if_neg h, List.map_append]
  congr 1
  · refine List.map_congr_left fun n hn => ?_
    unfold fAm
    rw [Tot_app, Tot_one, if_neg (by simp only; intro q; exact h (by rw [q]; exact hn)), Int.add_zero]
  · simp only [List.map_cons, List.map_nil]
    unfold fAm
    rw [Tot_app, Tot_one, if_pos rfl, Tot_none (fun q => h ((mem_nmF _ _).2 q))]
    simp
/-- Names that do not fall. -/
def Ris (l : List Am) : Prop := l.Pairwise fun x y => x.n.data.toList ≤ y.n.data.toList
/-- Of a list whose names do not fall the names come up rising, and the last that came up is the last one's. -/
theorem ris_names (S : List Am) (hS : Ris S) : ∀ k, k ≤ S.length → (nmF (ent (S.take k))).Pairwise (fun x y => x ≤ y) ∧ (∀ x ∈ nmF (ent (S.take k)), 0 < k → x ≤ (S.getD (k - 1) kAm.z).n.data.toList) ∧ (0 < k → 0 < (nmF (ent (S.take k))).length ∧ (nmF (ent (S.take k))).getD ((nmF (ent (S.take k))).length - 1) [] = (S.getD (k - 1) kAm.z).n.data.toList)
  | 0, _ => by
    refine ⟨by simp [ent, nmF], by simp [ent, nmF], fun h => by omega⟩
  | k + 1, hk => by
    obtain ⟨h1, h2, h3⟩ := ris_names S hS k (by omega)
    have hst : ent (S.take (k + 1)) = ent (S.take k) ++ [((S.getD k kAm.z).n.data.toList, (S.getD k kAm.z).v)] := by
      rw [take_onez S k kAm.z (by omega), ent_app]; rfl
    have hle : ∀ x ∈ nmF (ent (S.take k)), x ≤ (S.getD k kAm.z).n.data.toList := by
      intro x hx
      rcases Nat.eq_zero_or_pos k with e | e
      · subst e; simp [ent, nmF] at hx
      · refine List.le_trans (h2 x hx e) ?_
        have q := List.pairwise_iff_getElem.1 hS (k - 1) k (by omega) (by omega) (by omega)
        rw [getD_ge _ _ _ (by omega), getD_ge _ _ _ (by omega)]
        exact q
    obtain ⟨n, hn⟩ : ∃ n, n = (S.getD k kAm.z).n.data.toList := ⟨_, rfl⟩
    rw [← hn] at hst hle
    have e1 : k + 1 - 1 = k := by omega
    rw [e1, ← hn, hst, nmF_snoc]
    unfold stepF
    simp only
    split
    · rename_i hin
      refine ⟨h1, fun x hx _ => hle x hx, fun _ => ?_⟩
      have hpos : 0 < (nmF (ent (S.take k))).length := List.length_pos_of_mem hin
      refine ⟨hpos, ?_⟩
      have hlast := hle ((nmF (ent (S.take k))).getD ((nmF (ent (S.take k))).length - 1) []) (by rw [getD_ge _ _ _ (by omega)]; exact List.getElem_mem _)
      obtain ⟨i, hi, ei⟩ := List.getElem_of_mem hin
      refine List.le_antisymm hlast ?_
      rw [getD_ge _ _ _ (by omega), ← ei]
      rcases Nat.lt_or_ge i ((nmF (ent (S.take k))).length - 1) with q | q
      · exact List.pairwise_iff_getElem.1 h1 i _ hi (by omega) q
      · have e : i = (nmF (ent (S.take k))).length - 1 := by omega
        subst e
        exact List.le_refl _
    · refine ⟨List.pairwise_append.2 ⟨h1, by simp, fun x hx y hy => ?_⟩, fun x hx _ => ?_, fun _ => ⟨by simp, ?_⟩⟩
      · simp only [List.mem_singleton] at hy
        rw [hy]; exact hle x hx
      · rcases List.mem_append.1 hx with q | q
        · exact hle x q
        · simp only [List.mem_singleton] at q
          rw [q]; exact List.le_refl _
      · rw [List.length_append]
        simp
/-- The sums of a sorted list are those that are told. -/
theorem sms_out (S : List Am) (hS : Ris S) : sms (ent S) = outL (ent S) := by
  have h := ris_names S hS S.length (Nat.le_refl _)
  rw [List.take_length] at h
  have e := nmF_sort (List.Perm.refl (nmF (ent S))) h.1
  unfold sms outL
  rw [← e]
  rfl
end Go.Proofs.YtehgnbgbmicheaaGreatDoor
