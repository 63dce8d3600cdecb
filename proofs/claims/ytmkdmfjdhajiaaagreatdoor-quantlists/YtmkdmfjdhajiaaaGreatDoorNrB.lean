/-
  The law's behind, same, back and quant.Of, over rows of amounts.
-/
import Derived.Test.YtmkdmfjdhajiaaaGreatDoorNrV
import Derived.Test.YtmkdmfjdhajiaaaGreatDoorFinds
namespace Go.Proofs.YtmkdmfjdhajiaaaGreatDoor
open Go.RowKit Go.Lib
open Go.Sort (grow)
def toA (l : List Am) : List Amt := l.map fun x => (x.n, x.v)
theorem toA_len (l : List Am) : (toA l).length = l.length := by simp [toA]
theorem toA_at (l : List Am) (k : Nat) (h : k < l.length) : (toA l).getD k (⟨#[]⟩, 0) = ((l.getD k kAm.z).n, (l.getD k kAm.z).v) := by
  unfold toA
  rw [List.getD_eq_getElem?_getD, List.getElem?_map, List.getElem?_eq_getElem h, getD_ge _ _ _ h]; rfl
theorem amts_row {w : World} {v : Value} {l : List Am} (h : Row kAm w v l) : Amts w v (toA l) := by
  obtain ⟨a, cap, e, h1, h2, h0, h3⟩ := h
  refine ⟨a, cap, by rw [toA_len]; exact e, by rw [toA_len]; exact h1, h2, h0, fun k hk => ?_⟩
  rw [toA_len] at hk
  obtain ⟨b, off, ea, hc⟩ := h3 k hk
  rw [toA_at l k hk]
  exact ⟨b, off, ea, hc 0 _ rfl, hc 1 _ rfl⟩
def ofA (xs : List Amt) : List Am := xs.map fun x => ⟨x.1, x.2⟩
theorem ofA_len (l : List Amt) : (ofA l).length = l.length := by simp [ofA]
theorem toA_ofA (xs : List Amt) : toA (ofA xs) = xs := by
  unfold toA ofA
  rw [List.map_map]
  exact (List.map_congr_left (fun x _ => rfl)).trans (List.map_id xs)
theorem ofA_toA (l : List Am) : ofA (toA l) = l := by
  unfold toA ofA
  rw [List.map_map]
  exact (List.map_congr_left (fun x _ => rfl)).trans (List.map_id l)
theorem row_amts {w : World} {v : Value} {xs : List Amt} (h : Amts w v xs) : Row kAm w v (ofA xs) := by
  obtain ⟨a, cap, e, h1, h2, h0, h3⟩ := h
  refine ⟨a, cap, by rw [ofA_len]; exact e, by rw [ofA_len]; exact h1, h2, h0, fun k hk => ?_⟩
  rw [ofA_len] at hk
  obtain ⟨b, off, ea, c0, c1⟩ := h3 k hk
  refine ⟨b, off, ea, fun j y hy => ?_⟩
  have e1 : (ofA xs).getD k kAm.z = ⟨(xs.getD k (⟨#[]⟩, 0)).1, (xs.getD k (⟨#[]⟩, 0)).2⟩ := by
    have q := toA_at (ofA xs) k (by rw [ofA_len]; exact hk)
    rw [toA_ofA] at q
    rw [q]
  rw [e1] at hy
  have hj : j = 0 ∨ j = 1 := by
    rcases Nat.lt_or_ge j 2 with q | q
    · omega
    · rw [List.getElem?_eq_none (by show 2 ≤ j; exact q)] at hy; cases hy
  rcases hj with rfl | rfl
  · injection hy with hy; rw [← hy]; exact c0
  · injection hy with hy; rw [← hy]; exact c1
/-- A copy with a mark behind it: its front. -/
theorem behind_row (v : Value) (l : List Am) (m : Amt) (w : World) (hv : Row kAm w v l) (hm : Mark w m) (hl : (l.length + 1) * 24 ≤ 140737488355328) :
    Calls Tryz.prog 5 #[v] w fun e w' => ∃ g cap, e = .returned (.slice (some ⟨g, 0, none⟩) (l.length + 1) cap) ∧ l.length + 1 ≤ cap ∧ cap ≤ 9223372036854775807 ∧ Row kAm w' (.slice (some ⟨g, 0, none⟩) l.length cap) l ∧ Below w.heap.size w w' := by
  refine (behind_any v (toA l) m w (amts_row hv) hm (by rw [toA_len]; exact hl)).mono ?_
  rintro e w' ⟨v', rfl, ho, hb⟩
  have ha := ho.amts
  obtain ⟨_, ⟨_, hn⟩ | ⟨g, cap, cur, hv', _, _, hn, hm', _⟩⟩ := ho
  · simp at hn
  · subst hv'
    have e1 : (toA l ++ [m]).length = l.length + 1 := by rw [List.length_append, toA_len]; rfl
    rw [e1] at hn ha ⊢
    have f := row_amts (Amts.front ha (by simp))
    rw [toA_len, ofA_toA] at f
    unfold maxLen at hm'
    exact ⟨g, cap, rfl, hn, hm', f, hb⟩
theorem same_row (v v' : Value) (l : List Am) (w : World) (hv : Row kAm w v l) (hv' : Row kAm w v' l) :
    Calls Tryz.prog 11 #[v, v'] w fun e w' => e = .returned (.bool true) ∧ Below w.heap.size w w' :=
  (same_yes v v' (toA l) w (amts_row hv) (amts_row hv')).mono fun _ _ ⟨e, n, q⟩ => ⟨e, by rw [q]; exact ⟨rfl, rfl, rfl, Nat.le_refl _, fun _ _ => rfl⟩⟩
theorem find_there (name : ByteArray) (l : List Am) (h : ∃ x ∈ l, x.n.data.toList = name.data.toList) : (findA name (toA l)).2 = true := by
  obtain ⟨x, hx, e⟩ := h
  obtain ⟨k, hk, ek⟩ : ∃ k, k < l.length ∧ (l.getD k kAm.z).n.data.toList = name.data.toList ∧ ∀ i, i < k → ¬ (l.getD i kAm.z).n.data.toList = name.data.toList := by
    obtain ⟨i, hi, rfl⟩ := List.getElem_of_mem hx
    have hex : ∃ k, k < l.length ∧ (l.getD k kAm.z).n.data.toList = name.data.toList := ⟨i, hi, by rw [getD_ge _ _ _ hi]; exact e⟩
    have key : ∀ n, (∃ k, k < n ∧ k < l.length ∧ (l.getD k kAm.z).n.data.toList = name.data.toList) → ∃ k, k < l.length ∧ (l.getD k kAm.z).n.data.toList = name.data.toList ∧ ∀ i, i < k → ¬ (l.getD i kAm.z).n.data.toList = name.data.toList := by
      intro n
      induction n with
      | zero => rintro ⟨k, h, _⟩; omega
      | succ n ih =>
        rintro ⟨k, hk, hk2, hk3⟩
        by_cases hp : ∃ j, j < n ∧ j < l.length ∧ (l.getD j kAm.z).n.data.toList = name.data.toList
        · exact ih hp
        · exact ⟨k, hk2, hk3, fun j hj c => hp ⟨j, by omega, by omega, c⟩⟩
    obtain ⟨k, h1, h2⟩ := hex
    exact key (k + 1) ⟨k, by omega, h1, h2⟩
  have hs := splitA (toA l) k (by rw [toA_len]; exact hk)
  rw [hs, findA_app name _ _ _ (by
    intro y hy
    obtain ⟨i, hi, rfl⟩ := List.getElem_of_mem hy
    rw [List.length_take] at hi
    rw [List.getElem_take]
    have q := toA_at l i (by rw [toA_len] at hi; omega)
    rw [getD_ge _ _ _ (by omega)] at q
    rw [q]
    exact ek.2 i (by omega))]
  rw [toA_at l k hk, if_pos ek.1]
end Go.Proofs.YtmkdmfjdhajiaaaGreatDoor
