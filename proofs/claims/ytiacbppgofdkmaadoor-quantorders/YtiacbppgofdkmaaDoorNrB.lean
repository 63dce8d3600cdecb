/-
  The law's behind, same, back and quant.Of, over rows of amounts.
-/
import Derived.Test.YtiacbppgofdkmaaDoorNrV
import Derived.Test.YtiacbppgofdkmaaDoorFinds
namespace Go.Proofs.YtiacbppgofdkmaaDoor
open Go.RowKit Go.Lib
open Go.Sort (grow)
def toA (l : List Am) : List Amt := l.map fun x => (x.n, x.v)
theorem toA_len (l : List Am) : (toA l).length = l.length := by simp [toA]
theorem toA_at (l : List Am) (k : Nat) (h : k < l.length) : (toA l).getD k (⟨#[]⟩, 0) = ((l.getD k kAm.z).n, (l.getD k kAm.z).v) := by
  unfold toA
  rw [List.getD_eq_getElem?_getD, List.getElem?_map, List.getElem?_eq_getElem h, getD_ge _ _ _ h]; rfl
theorem amts_row {w : World} {v : Value} {l : List Am} (h : Row kAm w v l) : Amts w v (toA l) := by
  obtain ⟨a, cap, e, h1, h2, h0, h3⟩ := h
  refine ⟨a, cap, by rw [toA_len]; exact e, by rw [toA_len]; exact h1, h2, h0, fun k hk => ?_⟩
  rw [toA_len] at hk
  obtain ⟨b, off, ea, hc⟩ := h3 k hk
  rw [toA_at l k hk]
  exact ⟨b, off, ea, hc 0 _ rfl, hc 1 _ rfl⟩
def ofA (xs : List Amt) : List Am := xs.map fun x => ⟨x.1, x.2⟩
theorem ofA_len (l : List Amt) : (ofA l).length = l.length := by simp [ofA]
theorem toA_ofA (xs : List Amt) : toA (ofA xs) = xs := by
  unfold toA ofA
  rw [List.map_map]
  exact (List.map_congr_left (fun x _ => rfl)).trans (List.map_id xs)
theorem ofA_toA (l : List Am) : ofA (toA l) = l := by
  unfold toA ofA
  rw [List.map_map]
  exact (List.map_congr_left (fun x _ => rfl)).trans (List.map_id l)
theorem row_amts {w : World} {v : Value} {xs : List Amt} (h : Amts w v xs) : Row kAm w v (ofA xs) := by
  obtain ⟨a, cap, e, h1, h2, h0, h3⟩ := h
  refine ⟨a, cap, by rw [ofA_len]; exact e, by rw [ofA_len]; exact h1, h2, h0, fun k hk => ?_⟩
  rw [ofA_len] at hk
  obtain ⟨b, off, ea, c0, c1⟩ := h3 k hk
  refine ⟨b, off, ea, fun j y hy => ?_⟩
  have e1 : (ofA xs).getD k kAm.z = ⟨(xs.getD k (⟨#[]⟩, 0)).1, (xs.getD k (⟨#[]⟩, 0)).2⟩ := by
    have q := toA_at (ofA xs) k (by rw [ofA_len]; exact hk)
    rw [toA_ofA] at q
    rw [q]
  rw [e1] at hy
  have hj : j = 0 ∨ j = 1 := by
    rcases Nat.lt_or_ge j 2 with q | q
    · omega
    · rw [List.getElem?_eq_none (by show 2 ≤ j; exact q)] at hy; cases hy
  rcases hj with rfl | rfl
  · injection hy with hy; rw [← hy]; exact c0
  · injection hy with hy; rw [← hy]; exact c1
/-- A copy with a mark behind it: its front. -/
theorem behind_row (v : Value) (l : List Am) (m : Amt) (w : World) (hv : Row kAm w v l) (hm : Mark w m) (hl : (l.length + 1) * 24 ≤ 140737488355328) :
    Calls Tryd.prog 16 #[v] w fun e w' => ∃ g cap, e = .returned (.slice (some ⟨g, 0, none⟩) (l.length + 1) cap) ∧ l.length + 1 ≤ cap ∧ cap ≤ 9223372036854775807 ∧ Row kAm w' (.slice (some ⟨g, 0, none⟩) l.length cap) l ∧ Below w.heap.size w w' := by
  refine (behind_any v (toA l) m w (amts_row hv) hm (by rw [toA_len]; exact hl)).mono ?_
  rintro e w' ⟨v', rfl, ho, hb⟩
  have ha := ho.amts
  obtain ⟨_, ⟨_, hn⟩ | ⟨g, cap, cur, hv', _, _, hn, hm', _⟩⟩ := ho
  · simp at hn
  · subst hv'
    have e1 : (toA l ++ [m]).length = l.length + 1 := by rw [List.length_append, toA_len]; rfl
    rw [e1] at hn ha ⊢
    have f := row_amts (Amts.front ha (by simp))
    rw [toA_len, ofA_toA] at f
    unfold maxLen at hm'
    exact ⟨g, cap, rfl, hn, hm', f, hb⟩
theorem same_row (v v' : Value) (l : List Am) (w : World) (hv : Row kAm w v l) (hv' : Row kAm w v' l) :
    Calls Tryd.prog 23 #[v, v'] w fun e w' => e = .returned (.bool true) ∧ Below w.heap.size w w' :=
  (same_yes v v' (toA l) w (amts_row hv) (amts_row hv')).mono fun _ _ ⟨e, n, q⟩ => ⟨e, by rw [q]; exact ⟨rfl, rfl, rfl, Nat.le_refl _, fun _ _ => rfl⟩⟩
theorem find_there (name : ByteArray) (l : List Am) (h : ∃ x ∈ l, x.n.data.toList = name.data.toList) : (findA name (toA l)).2 = true := by
  obtain ⟨x, hx, e⟩ := h
  obtain ⟨k, hk, ek⟩ : ∃ k, k < l.length ∧ (l.getD k kAm.z).n.data.toList = name.data.toList ∧ ∀ i, i < k → ¬ (l.getD i kAm.z).n.data.toList = name.data.toList := by
    obtain ⟨i, hi, rfl⟩ := List.getElem_of_mem hx
    have hex : ∃ k, k < l.length ∧ (l.getD k kAm.z).n.data.toList = name.data.toList := ⟨i, hi, by rw [getD_ge _ _ _ hi]; exact e⟩
    have key : ∀ n, (∃ k, k < n ∧ k < l.length ∧ (l.getD k kAm.z).n.data.toList = name.data.toList) → ∃ k, k < l.length ∧ (l.getD k kAm.z).n.data.toList = name.data.toList ∧ ∀ i, i < k → ¬ (l.getD i kAm.z).n.data.toList = name.data.toList := by
      intro n
      induction n with
      | zero => rintro ⟨k, h, _⟩; omega
      | succ n ih =>
        rintro ⟨k, hk, hk2, hk3⟩
        by_cases hp : ∃ j, j < n ∧ j < l.length ∧ (l.getD j kAm.z).n.data.toList = name.data.toList
        · exact ih hp
        · exact ⟨k, hk2, hk3, fun j hj c => hp ⟨j, by omega, by omega, c⟩⟩
    obtain ⟨k, h1, h2⟩ := hex
    exact key (k + 1) ⟨k, by omega, h1, h2⟩
  have hs := splitA (toA l) k (by rw [toA_len]; exact hk)
  rw [hs, findA_app name _ _ _ (by
    intro y hy
    obtain ⟨i, hi, rfl⟩ := List.getElem_of_mem hy
    rw [List.length_take] at hi
    rw [List.getElem_take]
    have q := toA_at l i (by rw [toA_len] at hi; omega)
    rw [getD_ge _ _ _ (by omega)] at q
    rw [q]
    exact ek.2 i (by omega))]
  rw [toA_at l k hk, if_pos ek.1]
set_option maxHeartbeats 4000000 in
set_option maxRecDepth 100000 in
theorem back_any (v : Value) (l : List Am) (w : World) (hv : Row kAm w v l) (hz : l.length * 24 ≤ 140737488355328) :
    Calls Tryd.prog 22 #[v] w fun e w' => ∃ a n c, e = .returned (.slice a n c) ∧ OwnR kAm w.heap.size w' (.slice a n c) l.reverse ∧ Below w.heap.size w w' := by
  have V := Lib.hid hv
  obtain ⟨va, vc, rfl, hlc, hcm⟩ := hv.len
  unfold maxLen at hcm
  obtain ⟨n, hn⟩ : ∃ n, n = l.length := ⟨_, rfl⟩
  rw [← hn] at hlc hz V ⊢
  have HN := Lib.hid hn
  have NZ := Lib.hid hz
  clear hv hn hz
  go_enter Tryd.func22, Tryd.ntmps22
  go_wp2_with fail
  go_loopg [3, 4] n (fun g so si wr => ∃ (k : Nat) (sa : Option Addr) (m c : Nat), k ≤ n ∧ g = k ∧ si = .int .i64 ((k : Int) - 1) ∧ so = .slice sa m c ∧ OwnR kAm w.heap.size wr (.slice sa m c) (l.drop k).reverse ∧ Below w.heap.size w wr)
  case atStart => exact ⟨n, none, 0, 0, Nat.le_refl _, rfl, by first | rfl | go_num, rfl, by rw [List.drop_eq_nil_of_le (by rw [HN.out]; exact Nat.le_refl _)]; exact OwnR.nil _ _ _, Below.refl _ _⟩
  case round =>
    obtain ⟨k, sa, m, c, hk, hg, rfl, rfl, ho, hb⟩ := hrel
    have R : Hid (gk = k ∧ OwnR kAm w.heap.size wr (.slice sa m c) (l.drop k).reverse ∧ Below w.heap.size w wr) := Lib.hid ⟨hg, ho, hb⟩
    clear hg ho hb
    rcases Nat.eq_zero_or_pos k with h0 | h0
    · subst h0
      have gz : decide (((0 : Nat) : Int) - 1 ≥ 0) = false := by decide
      go_wp2_with fail
      go_ret
      exact ⟨sa, m, c, rfl, by have q := R.out.2.1; rw [List.drop_zero] at q; exact q, R.out.2.2⟩
    · obtain ⟨i, rfl⟩ : ∃ i, k = i + 1 := ⟨k - 1, by omega⟩
      have ei : (((i + 1 : Nat) : Int) - 1) = (i : Int) := by omega
      rw [ei]
      clear ei
      have hil : i < l.length := by rw [← HN.out]; omega
      obtain ⟨b, off, rfl, pc⟩ := (V.out.below R.out.2.2).at i hil
      have DP : Hid ((l.drop i).reverse = (l.drop (i + 1)).reverse ++ [l.getD i kAm.z]) := Lib.hid (by rw [List.drop_eq_getElem_cons hil, List.reverse_cons, getD_ge _ _ _ hil])
      obtain ⟨⟨xn, xv⟩, hx⟩ : ∃ x, x = l.getD i kAm.z := ⟨_, rfl⟩
      rw [← hx] at pc DP
      have c0 : wr.cell? ⟨b, off + i * 2, none⟩ = some (.string xn) := pc 0 _ rfl
      have c1 : wr.cell? ⟨b, off + i * 2 + 1, none⟩ = some (.int .i64 xv) := pc 1 _ rfl
      have LN : Hid (((l.drop (i + 1)).reverse.length + 1) * kAm.b ≤ 140737488355328) := Lib.hid (by
        rw [List.length_reverse, List.length_drop, ← HN.out]
        have := NZ.out
        show (n - (i + 1) + 1) * 24 ≤ _
        omega)
      have WZ : Hid (w.heap.size ≤ wr.heap.size) := Lib.hid R.out.2.2.size
      have hin : (i : Int) < (n : Int) := by omega
      have gi : decide ((i : Int) ≥ 0) = true := decide_eq_true (by omega)
      clear hx pc hil
      go_wp2_with (at_builtin; refine app_rowB okAm (gg := wr.heap.size) rfl _ _ rfl rfl R.out.2.1 WZ.out ⟨xn, xv⟩ (by simp) rfl rfl LN.out ?_; intro v' w' h1 h2)
      obtain ⟨a2, c2, rfl⟩ := h1.slice
      have Z : Hid (OwnR kAm w.heap.size w' (.slice a2 ((l.drop (i + 1)).reverse ++ [(⟨xn, xv⟩ : Am)]).length c2) (l.drop i).reverse ∧ Below w.heap.size w w') := Lib.hid ⟨by rw [DP.out]; exact h1, R.out.2.2.trans (grown_belowR h2 R.out.2.1 WZ.out)⟩
      clear h1 h2
      go_wp2_with fail
      go_roundg i
      case measure => have := R.out.1; omega
      case rel => exact ⟨i, a2, _, c2, by omega, rfl, by first | rfl | go_num, rfl, Z.out.1, Z.out.2⟩
end Go.Proofs.YtiacbppgofdkmaaDoor
