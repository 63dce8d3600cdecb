/-
  LgM, LgA, LgB, LgC, LgD, LgE, joined.
-/
import Derived.Test.YtmkdmfjdhajiaaaGreatDoorScG
import Derived.Lib.QuietBelow
import Derived.BigQuiet
import Derived.Test.YtmkdmfjdhajiaaaGreatDoorNrE
import Derived.OwnWalk
import Derived.Deep.RegionWith
import Derived.Deep.LoopGhost
section S0
namespace Go.Proofs.YtmkdmfjdhajiaaaGreatDoor
namespace Lg
/-- The digits of a number, lowest first, no highest 0. -/
def dg (n : Nat) : List Nat := if h : n = 0 then [] else (n % 10) :: dg (n / 10)
termination_by n
decreasing_by omega
/-- What digits mean. -/
def vl : List Nat → Nat
  | [] => 0
  | x :: r => x + 10 * vl r
def Dgs (d : List Nat) : Prop := ∀ x ∈ d, x < 10
theorem dg_zero : dg 0 = [] := by rw [dg]; simp
theorem dg_pos {n : Nat} (h : 0 < n) : dg n = (n % 10) :: dg (n / 10) := by rw [dg]; simp; omega
theorem vl_dg (n : Nat) : vl (dg n) = n := by
  induction n using Nat.strongRecOn with
  | ind n ih =>
    rcases Nat.eq_zero_or_pos n with h | h
    · subst h; rw [dg_zero]; rfl
    · rw [dg_pos h, vl, ih (n / 10) (by omega)]; omega
theorem dgs_dg (n : Nat) : Dgs (dg n) := by
  induction n using Nat.strongRecOn with
  | ind n ih =>
    rcases Nat.eq_zero_or_pos n with h | h
    · subst h; rw [dg_zero]; intro x hx; cases hx
    · rw [dg_pos h]
      intro x hx
      rcases List.mem_cons.1 hx with e | e
      · subst e; omega
      · exact ih (n / 10) (by omega) x e
theorem vl_app (d e : List Nat) : vl (d ++ e) = vl d + 10 ^ d.length * vl e := by
  induction d with
  | nil => simp [vl]
  | cons x r ih => rw [List.cons_append, vl, vl, ih, List.length_cons, Nat.pow_succ]; rw [Nat.mul_add, Nat.add_assoc, ← Nat.mul_assoc, Nat.mul_comm 10 (10 ^ r.length)]
theorem vl_lt {d : List Nat} (h : Dgs d) : vl d < 10 ^ d.length := by
  induction d with
  | nil => simp [vl]
  | cons x r ih =>
    have h1 := h x (by simp)
    have h2 := ih (fun y hy => h y (by simp [hy]))
    rw [vl, List.length_cons, Nat.pow_succ]; omega
theorem dg_len_lt {n k : Nat} (h : n < 10 ^ k) : (dg n).length ≤ k := by
  induction k generalizing n with
  | zero => have : n = 0 := by simpa using h
            subst this; rw [dg_zero]; simp
  | succ k ih =>
    rcases Nat.eq_zero_or_pos n with h0 | h0
    · subst h0; rw [dg_zero]; simp
    · rw [dg_pos h0, List.length_cons]
      have := @ih (n / 10) (by rw [Nat.pow_succ] at h; omega)
      omega
theorem dg_len_ge {n k : Nat} (h : 10 ^ k ≤ n) : k < (dg n).length := by
  have h1 := vl_lt (dgs_dg n)
  rw [vl_dg] at h1
  rcases Nat.lt_or_ge k (dg n).length with q | q
  · exact q
  · have := Nat.pow_le_pow_right (show 0 < 10 by decide) q
    omega
/-- Digits with no highest 0 are the number's. -/
theorem dg_vl {d : List Nat} (h : Dgs d) (hl : ∀ x, d.getLast? = some x → x ≠ 0) : dg (vl d) = d := by
  induction d with
  | nil => rw [vl, dg_zero]
  | cons x r ih =>
    have h1 := h x (by simp)
    have h2 : Dgs r := fun y hy => h y (by simp [hy])
    cases r with
    | nil =>
      have hx : x ≠ 0 := hl x rfl
      rw [vl, vl, dg_pos (by omega)]
      have e1 : (x + 10 * 0) % 10 = x := by omega
      have e2 : (x + 10 * 0) / 10 = 0 := by omega
      rw [e1, e2, dg_zero]
    | cons y s =>
      have h3 := ih h2 (fun z hz => hl z (by rw [List.getLast?_cons_cons]; exact hz))
      have hp : 0 < vl (y :: s) := by
        rcases Nat.eq_zero_or_pos (vl (y :: s)) with q | q
        · rw [q, dg_zero] at h3; cases h3
        · exact q
      rw [vl, dg_pos (by omega)]
      have e1 : (x + 10 * vl (y :: s)) % 10 = x := by omega
      have e2 : (x + 10 * vl (y :: s)) / 10 = vl (y :: s) := by omega
      rw [e1, e2, h3]
theorem dg_len_eq {n m : Nat} (h : (dg n).length < (dg m).length) : n < m := by
  have h1 := vl_lt (dgs_dg n)
  rw [vl_dg] at h1
  rcases Nat.lt_or_ge n m with q | q
  · exact q
  · have h2 : (dg m).length ≤ (dg n).length := dg_len_lt (Nat.lt_of_le_of_lt q h1)
    omega
/-- Zeros at the end mean nothing. -/
theorem vl_zeros (d : List Nat) (k : Nat) (h : ∀ j, k ≤ j → d.getD j 0 = 0) : vl (d.take k) = vl d := by
  induction d generalizing k with
  | nil => simp [vl]
  | cons x r ih =>
    cases k with
    | zero =>
      have h0 : x = 0 := by simpa using h 0 (Nat.le_refl _)
      have h1 := ih 0 (fun j _ => by simpa using h (j + 1) (by omega))
      simp only [List.take_zero, vl] at h1 ⊢
      omega
    | succ k =>
      rw [List.take_succ_cons, vl, vl, ih k (fun j hj => by simpa using h (j + 1) (by omega))]
theorem vl_set (d : List Nat) (i y : Nat) (hi : i < d.length) : vl (d.set i y) + 10 ^ i * d.getD i 0 = vl d + 10 ^ i * y := by
  induction d generalizing i with
  | nil => simp at hi
  | cons x r ih =>
    cases i with
    | zero => simp [vl]; omega
    | succ i =>
      rw [List.set_cons_succ, vl, vl, List.getD_cons_succ, Nat.pow_succ]
      have := ih i (by simpa using hi)
      have e1 : 10 ^ i * 10 * r.getD i 0 = 10 * (10 ^ i * r.getD i 0) := by rw [Nat.mul_comm (10 ^ i) 10, Nat.mul_assoc]
      have e2 : 10 ^ i * 10 * y = 10 * (10 ^ i * y) := by rw [Nat.mul_comm (10 ^ i) 10, Nat.mul_assoc]
      rw [e1, e2]; omega
theorem vl_snoc (d : List Nat) (x : Nat) : vl (d ++ [x]) = vl d + 10 ^ d.length * x := by rw [vl_app]; simp [vl]
theorem vl_take_succ (d : List Nat) (k : Nat) (h : k < d.length) : vl (d.take (k + 1)) = vl (d.take k) + 10 ^ k * d.getD k 0 := by
  have e : d.take (k + 1) = d.take k ++ [d.getD k 0] := by rw [List.take_add_one, List.getD_eq_getElem?_getD, List.getElem?_eq_getElem h]; rfl
  rw [e, vl_snoc, List.length_take, Nat.min_eq_left (by omega)]
theorem vl_take_succ' (d : List Nat) (k : Nat) : vl (d.take (k + 1)) = vl (d.take k) + 10 ^ k * d.getD k 0 := by
  rcases Nat.lt_or_ge k d.length with h | h
  · exact vl_take_succ d k h
  · rw [List.take_of_length_le (by omega), List.take_of_length_le h, List.getD_eq_getElem?_getD, List.getElem?_eq_none h]; simp
theorem vl_drop (d : List Nat) (k : Nat) (h : k < d.length) : vl (d.drop k) = d.getD k 0 + 10 * vl (d.drop (k + 1)) := by
  rw [List.drop_eq_getElem_cons h, vl, List.getD_eq_getElem?_getD, List.getElem?_eq_getElem h]; rfl
theorem vl_split (d : List Nat) (k : Nat) (h : k ≤ d.length) : vl d = vl (d.take k) + 10 ^ k * vl (d.drop k) := by
  have e : d = d.take k ++ d.drop k := (List.take_append_drop k d).symm
  have := vl_app (d.take k) (d.drop k)
  rw [← e, List.length_take, Nat.min_eq_left h] at this; exact this
theorem getD_lt {d : List Nat} (h : Dgs d) (k : Nat) : d.getD k 0 < 10 := by
  rcases Nat.lt_or_ge k d.length with q | q
  · rw [List.getD_eq_getElem?_getD, List.getElem?_eq_getElem q]; exact h _ (List.getElem_mem q)
  · rw [List.getD_eq_getElem?_getD, List.getElem?_eq_none q]; decide
theorem getD_set {d : List Nat} (i j y : Nat) (hi : i < d.length) : (d.set i y).getD j 0 = if i = j then y else d.getD j 0 := by
  simp only [List.getD_eq_getElem?_getD, List.getElem?_set]
  by_cases h : i = j
  · subst h; simp [hi]
  · simp [h]
theorem dgs_set {d : List Nat} (h : Dgs d) (i y : Nat) (hy : y < 10) : Dgs (d.set i y) := fun x hx => by
  rcases List.mem_or_eq_of_mem_set hx with q | q
  · exact h x q
  · subst q; exact hy
theorem dgs_app {d e : List Nat} (h : Dgs d) (h' : Dgs e) : Dgs (d ++ e) := fun x hx => (List.mem_append.1 hx).elim (h x) (h' x)
theorem dgs_one {x : Nat} (h : x < 10) : Dgs [x] := fun y hy => by simp at hy; subst hy; exact h
theorem dgs_take {d : List Nat} (h : Dgs d) (k : Nat) : Dgs (d.take k) := fun x hx => h x (List.mem_of_mem_take hx)
theorem dgs_drop {d : List Nat} (h : Dgs d) (k : Nat) : Dgs (d.drop k) := fun x hx => h x (List.mem_of_mem_drop hx)
/-- Cut: behind the highest digit that is not 0 all are 0. -/
theorem cut_dg {d : List Nat} (h : Dgs d) (n : Nat) (hn : n ≤ d.length) (hz : ∀ j, n ≤ j → d.getD j 0 = 0) (hl : n = 0 ∨ d.getD (n - 1) 0 ≠ 0) : d.take n = dg (vl d) := by
  rw [← vl_zeros d n hz]
  refine (dg_vl (dgs_take h n) fun x hx => ?_).symm
  rcases hl with e | e
  · subst e; simp at hx
  · rw [List.getLast?_eq_getElem?, List.length_take, Nat.min_eq_left hn] at hx
    rcases Nat.eq_zero_or_pos n with q | q
    · subst q; simp at hx
    · rw [List.getElem?_take_of_lt (by omega)] at hx
      rw [List.getD_eq_getElem?_getD, hx] at e
      exact e
/-- Comparing from the highest digit. -/
theorem less_at {d e : List Nat} (hd : Dgs d) (hlen : d.length = e.length) (i : Nat) (hi : i < d.length) (hs : d.drop (i + 1) = e.drop (i + 1)) (h : d.getD i 0 < e.getD i 0) : vl d < vl e := by
  have e1 := vl_split d i (by omega)
  have e2 := vl_split e i (by omega)
  have h1 := vl_drop d i hi
  have h2 := vl_drop e i (by omega)
  have h3 : vl (d.take i) < 10 ^ i := by have := vl_lt (dgs_take hd i); rw [List.length_take, Nat.min_eq_left (by omega)] at this; exact this
  rw [hs] at h1
  have h4 : vl (d.drop i) + 1 ≤ vl (e.drop i) := by omega
  have h5 := Nat.mul_le_mul_left (10 ^ i) h4
  rw [Nat.mul_add] at h5
  omega
theorem drop_eq_of {d e : List Nat} (hlen : d.length = e.length) (i : Nat) (hi : i < d.length) (hs : d.drop (i + 1) = e.drop (i + 1)) (h : d.getD i 0 = e.getD i 0) : d.drop i = e.drop i := by
  have hi' : i < e.length := by omega
  rw [List.drop_eq_getElem_cons hi, List.drop_eq_getElem_cons hi', hs]
  congr 1
  rw [List.getD_eq_getElem?_getD, List.getElem?_eq_getElem hi, List.getD_eq_getElem?_getD, List.getElem?_eq_getElem hi'] at h
  exact h
end Lg
end Go.Proofs.YtmkdmfjdhajiaaaGreatDoor
end S0

section S1
namespace Go.Proofs.YtmkdmfjdhajiaaaGreatDoor
open Go.RowKit Go.Lib
namespace Lg
def kI : Kd Nat := ⟨fun x => [.int .i64 (x : Int)], 1, 3, 44, 8, 0⟩
theorem okI : kI.Ok := ⟨fun _ => rfl, by decide, fun x u hu => by simp only [kI, List.mem_cons, List.not_mem_nil, or_false] at hu; subst hu; rfl, Tryz.underlying44, ⟨_, (by kernel_rfl : (Tryz.prog.info? 3).map (fun i => (i.zero, i.size, i.bytes)) = some (some (.int .i64 0), 1, 8)), rfl⟩, by decide⟩
theorem takeR {α : Type} {K : Kd α} {w : World} {a : Option Addr} {n cap : Nat} {l : List α} (H : Row K w (.slice a n cap) l) (k : Nat) (hk : k ≤ l.length) : Row K w (.slice a k cap) (l.take k) := by
  obtain ⟨a', cap', e', h1, h2, h0, hc⟩ := H
  simp only [Value.slice.injEq] at e'
  obtain ⟨rfl, rfl, rfl⟩ := e'
  have e : (l.take k).length = k := by rw [List.length_take]; omega
  refine ⟨a, cap, by rw [e], by rw [e]; omega, h2, h0, fun j hj => ?_⟩
  rw [e] at hj
  obtain ⟨b', off', ea, hcc⟩ := hc j (by omega)
  refine ⟨b', off', ea, fun i y hy => hcc i y ?_⟩
  have e2 : (l.take k).getD j K.z = l.getD j K.z := by rw [List.getD_eq_getElem?_getD, List.getElem?_take_of_lt hj, List.getD_eq_getElem?_getD]
  rw [e2] at hy; exact hy
theorem Row.one {w : World} {a : Option Addr} {n cap : Nat} {d : List Nat} (H : Row kI w (.slice a n cap) d) (k : Nat) (hk : k < d.length) : ∃ b off, a = some ⟨b, off, none⟩ ∧ w.cell? ⟨b, off + k, none⟩ = some (.int .i64 (d.getD k 0 : Nat)) := by
  obtain ⟨b, off, e, h⟩ := H.at k hk
  refine ⟨b, off, e, ?_⟩
  have q := h 0 (.int .i64 (d.getD k 0 : Nat)) rfl
  have e2 : off + k * kI.k + 0 = off + k := by show off + k * 1 + 0 = _; omega
  rw [e2] at q; exact q
theorem cell1 {w : World} {g : Nat} {s : Value} {t : TypeId} (h : w.heap[g]? = some (.cells #[s] t (0, 0))) : w.cell? ⟨g, 0, none⟩ = some s := by simp [World.cell?, h]
theorem frz {w : World} {g : Nat} {cs : Array Value} {t : TypeId} (h : w.heap[g]? = some (.cells cs t (0, 0))) (j : Nat) : w.frozen? ⟨g, j, none⟩ = false := by
  unfold World.frozen?; rw [h]; simp
theorem set1 {w : World} {g : Nat} {s : Value} {t : TypeId} (h : w.heap[g]? = some (.cells #[s] t (0, 0))) (x : Value) : (w.setCell ⟨g, 0, none⟩ x).heap[g]? = some (.cells #[x] t (0, 0)) := by
  rw [heap_setCell_same _ _ _ _ _ _ h]; rfl
/-- A row of numbers stays, where a block that holds one slice is written. -/
theorem row_set {w : World} {g : Nat} {a0 : Option Addr} {n0 c0 : Nat} {t : TypeId} (h : w.heap[g]? = some (.cells #[.slice a0 n0 c0] t (0, 0))) {v : Value} {d : List Nat} (H : Row kI w v d) (x : Value) : Row kI (w.setCell ⟨g, 0, none⟩ x) v d := by
  obtain ⟨a, cap, e, h1, h2, h0, hc⟩ := H
  refine ⟨a, cap, e, h1, h2, h0, fun k hk => ?_⟩
  obtain ⟨b, off, ea, hcc⟩ := hc k hk
  refine ⟨b, off, ea, fun j y hy => ?_⟩
  have q := hcc j y hy
  have hb : b ≠ g := by
    rintro rfl
    have hj : j = 0 := by
      rcases Nat.eq_zero_or_pos j with z | z
      · exact z
      · rw [List.getElem?_eq_none (by show 1 ≤ j; omega)] at hy; cases hy
    subst hj
    have ey : y = .int .i64 ((d.getD k 0 : Nat) : Int) := by
      have : some (Value.int .i64 ((d.getD k 0 : Nat) : Int)) = some y := hy
      injection this with this; exact this.symm
    subst ey
    unfold World.cell? at q
    rw [h] at q
    simp only at q
    rcases Nat.eq_zero_or_pos (off + k * kI.k + 0) with z | z
    · rw [z] at q; simp at q
    · rw [Array.getElem?_eq_none (by show 1 ≤ _; omega)] at q; simp at q
  rw [← q]
  exact World.cell?_of_block (Below.heap_setCell _ _ _ _ hb)
theorem size_long : (Tryz.prog.info? 46).map (·.size) = some 1 := by kernel_rfl
set_option maxHeartbeats 4000000 in
set_option maxRecDepth 100000 in
theorem cut_at (va : Option Addr) (n0 vc : Nat) (d : List Nat) (w : World) (hv : Row kI w (.slice va n0 vc) d) (hd : Dgs d) :
    Calls Tryz.prog 47 #[.slice va n0 vc] w fun e w' => ∃ n c, e = .returned (.agg #[.slice va n c]) ∧ Row kI w' (.slice va n c) (dg (vl d)) ∧ Below w.heap.size w w' := by
  have V := Lib.hid hv
  have HD := Lib.hid hd
  obtain ⟨va', vc', eq0, hlc, hcm⟩ := hv.len
  simp only [Value.slice.injEq] at eq0
  obtain ⟨rfl, rfl, rfl⟩ := eq0
  unfold maxLen at hcm
  obtain ⟨n, hn⟩ : ∃ n, n = d.length := ⟨_, rfl⟩
  rw [← hn] at hlc V ⊢
  have HN := Lib.hid hn
  have BA : Hid (∀ o, Below w.heap.size w (w.alloc o)) := Lib.hid fun o => (Below.refl _ w).alloc (Nat.le_refl _) o
  clear hv hn hd
  go_enter Tryz.func47, Tryz.ntmps47
  go_wp2_with fail
  go_loopg [3] n (fun g si wr => ∃ (k : Nat), k ≤ n ∧ g = k ∧ si = .int .i64 k ∧ (∀ j, k ≤ j → d.getD j 0 = 0) ∧ wr = w.alloc (.cells #[.slice none 0 0] 46))
  case atStart => exact ⟨n, Nat.le_refl _, rfl, rfl, (fun j hj => by rw [List.getD_eq_getElem?_getD, List.getElem?_eq_none (by rw [← HN.out]; exact hj)]; rfl), rfl⟩
  case round =>
    obtain ⟨k, hk, hg, rfl, hz, rfl⟩ := hrel
    have R : Hid (gk = k ∧ ∀ j, k ≤ j → d.getD j 0 = 0) := Lib.hid ⟨hg, hz⟩
    clear hg hz
    rcases Nat.eq_zero_or_pos k with h0 | h0
    · subst h0
      have EQ : Hid (d.take 0 = dg (vl d)) := Lib.hid (cut_dg HD.out 0 (Nat.zero_le _) R.out.2 (Or.inl rfl))
      cases va with
      | none =>
        go_wp2_with fail
        refine bodyPost_ret (results_cell_row rfl _ _ w.heap.size 46 #[_] (0, 0) _ rfl (heap_alloc_new _ _) Tryz.underlying46 rfl size_long) rfl ?_
        refine ⟨0, vc, rfl, ?_, BA.out _⟩
        have q := takeR V.out 0 (Nat.zero_le _)
        rw [EQ.out] at q
        exact q.below (BA.out _)
      | some ad =>
        go_wp2_with fail
        refine bodyPost_ret (results_cell_row rfl _ _ w.heap.size 46 #[_] (0, 0) _ rfl (heap_alloc_new _ _) Tryz.underlying46 rfl size_long) rfl ?_
        refine ⟨0, vc, rfl, ?_, BA.out _⟩
        have q := takeR V.out 0 (Nat.zero_le _)
        rw [EQ.out] at q
        exact q.below (BA.out _)
    · obtain ⟨i, rfl⟩ : ∃ i, k = i + 1 := ⟨k - 1, by omega⟩
      have ei : (((i + 1 : Nat) : Int) - 1) = (i : Int) := by omega
      obtain ⟨b, off, rfl, c0⟩ := Row.one V.out i (by rw [← HN.out]; omega)
      obtain ⟨x, hx⟩ : ∃ x, x = d.getD i 0 := ⟨_, rfl⟩
      rw [← hx] at c0
      have HX := Lib.hid hx
      have c1 : ∀ o, (w.alloc o).cell? ⟨b, off + i, none⟩ = some (.int .i64 (x : Int)) := fun o => ((BA.out o).cell (block_lt_of_cell c0)).trans c0
      clear hx
      have gp : decide (((i + 1 : Nat) : Int) > 0) = true := decide_eq_true (by omega)
      have hin : (i : Int) < (n : Int) := by omega
      rcases Nat.eq_zero_or_pos x with hx0 | hx0
      · subst hx0
        go_wp2_with fail
        go_roundg i
        case measure => have := R.out.1; omega
        case rel =>
          refine ⟨i, by omega, rfl, by go_num, fun j hj => ?_, rfl⟩
          by_cases q : j = i
          · rw [q]; exact HX.out.symm
          · exact R.out.2 j (by omega)
      · have gx : ((x : Int) == 0) = false := by rw [beq_eq_false_iff_ne]; omega
        have EQ : Hid (d.take (i + 1) = dg (vl d)) := Lib.hid (cut_dg HD.out (i + 1) (by rw [← HN.out]; exact hk) R.out.2 (Or.inr (by rw [Nat.add_sub_cancel, ← HX.out]; omega)))
        go_wp2_with fail
        refine bodyPost_ret (results_cell_row rfl _ _ w.heap.size 46 #[_] (0, 0) _ rfl (heap_alloc_new _ _) Tryz.underlying46 rfl size_long) rfl ?_
        refine ⟨i + 1, vc, rfl, ?_, BA.out _⟩
        have q := takeR V.out (i + 1) (by rw [← HN.out]; exact hk)
        rw [EQ.out] at q
        exact q.below (BA.out _)
theorem cut_any (v : Value) (d : List Nat) (w : World) (hv : Row kI w v d) (hd : Dgs d) :
    Calls Tryz.prog 47 #[v] w fun e w' => ∃ a n c, e = .returned (.agg #[.slice a n c]) ∧ Row kI w' (.slice a n c) (dg (vl d)) ∧ Below w.heap.size w w' := by
  have hv' := hv
  obtain ⟨va, vc, rfl, -, -⟩ := hv.len
  exact (cut_at va _ vc d w hv' hd).mono fun e w' ⟨n, c, h1, h2, h3⟩ => ⟨va, n, c, h1, h2, h3⟩
/-- The memory that a slice lies in is not older. -/
def Fr (B : Nat) (a : Option Addr) : Prop := ∀ ad, a = some ad → B ≤ ad.block
theorem own_fr {B : Nat} {w : World} {a : Option Addr} {n c : Nat} {d : List Nat} (H : OwnR kI B w (.slice a n c) d) : Fr B a := by
  rintro ad rfl
  obtain ⟨_, ⟨hv, _⟩ | ⟨g, cap, cur, hv, hb, _⟩⟩ := H
  · simp at hv
  · simp only [Value.slice.injEq, Option.some.injEq] at hv
    rw [hv.1]; exact hb
theorem Fr.mono {B B' : Nat} {a : Option Addr} (h : Fr B a) (hB : B' ≤ B) : Fr B' a := fun ad e => Nat.le_trans hB (h ad e)
/-- A row stays, where another block is written. -/
theorem row_other {w : World} {g j : Nat} {a : Option Addr} {n c : Nat} {d : List Nat} (H : Row kI w (.slice a n c) d) (h : ∀ ad, a = some ad → ad.block ≠ g) (x : Value) : Row kI (w.setCell ⟨g, j, none⟩ x) (.slice a n c) d := by
  obtain ⟨a', cap, e, h1, h2, h0, hc⟩ := H
  simp only [Value.slice.injEq] at e
  obtain ⟨rfl, rfl, rfl⟩ := e
  refine ⟨a, c, rfl, h1, h2, h0, fun k hk => ?_⟩
  obtain ⟨b, off, ea, hcc⟩ := hc k hk
  refine ⟨b, off, ea, fun j' y hy => ?_⟩
  rw [← hcc j' y hy]
  exact World.cell?_of_block (Below.heap_setCell _ _ _ _ (show b ≠ g from h ⟨b, off, none⟩ ea))
set_option maxHeartbeats 4000000 in
set_option maxRecDepth 100000 in
theorem at_any (a : Option Addr) (n c : Nat) (d : List Nat) (i : Nat) (w : World) (hv : Row kI w (.slice a n c) d) :
    Calls Tryz.prog 46 #[.agg #[.slice a n c], .int .i64 (i : Int)] w fun e w' => e = .returned (.int .i64 ((d.getD i 0 : Nat) : Int)) ∧ Below w.heap.size w w' := by
  have V := Lib.hid hv
  have hn : n = d.length := by obtain ⟨_, _, e, _⟩ := hv.len; simp only [Value.slice.injEq] at e; exact e.2.1
  have HN := Lib.hid hn
  have BA : Hid (∀ o, Below w.heap.size w (w.alloc o)) := Lib.hid fun o => (Below.refl _ w).alloc (Nat.le_refl _) o
  obtain ⟨x, hx⟩ : ∃ x, x = d.getD i 0 := ⟨_, rfl⟩
  rw [← hx]
  by_cases h : i < n
  · obtain ⟨b, off, rfl, c0⟩ := Row.one hv i (by rw [← hn]; exact h)
    rw [← hx] at c0
    have c1 : ∀ o, (w.alloc o).cell? ⟨b, off + i, none⟩ = some (.int .i64 (x : Int)) := fun o => ((BA.out o).cell (block_lt_of_cell c0)).trans c0
    have hin : (i : Int) < (n : Int) := by omega
    clear hx hn hv
    go_enter Tryz.func46, Tryz.ntmps46
    go_wp2_with fail
    go_ret
    exact ⟨rfl, BA.out _⟩
  · have x0 : x = 0 := by rw [hx, List.getD_eq_getElem?_getD, List.getElem?_eq_none (by rw [← hn]; omega)]; rfl
    subst x0
    have hin : ¬ (i : Int) < (n : Int) := by omega
    clear hx hn hv
    go_enter Tryz.func46, Tryz.ntmps46
    go_wp2_with fail
    go_ret
    exact ⟨rfl, BA.out _⟩
set_option maxHeartbeats 4000000 in
set_option maxRecDepth 100000 in
theorem long_fr (m : Nat) (w : World) (hm : m ≤ 9223372036854775807) :
    Calls Tryz.prog 28 #[.int .i64 (m : Int)] w fun e w' => ∃ a n c, e = .returned (.agg #[.slice a n c]) ∧ Row kI w' (.slice a n c) (dg m) ∧ Fr w.heap.size a ∧ Below w.heap.size w w' := by
  have BA : Hid (∀ o, Below w.heap.size w (w.alloc o)) := Lib.hid fun o => (Below.refl _ w).alloc (Nat.le_refl _) o
  have HL : Hid ((dg m).length ≤ 19) := Lib.hid (dg_len_lt (by omega))
  have HM := Lib.hid hm
  clear hm
  go_enter Tryz.func28, Tryz.ntmps28
  go_wp2_with fail
  go_loopg [0, 3] m (fun g sv sd wr => ∃ (k : Nat) (d : List Nat) (a : Option Addr) (n c : Nat), g = k ∧ sv = .int .i64 k ∧ sd = .slice a n c ∧ dg m = d ++ dg k ∧ k ≤ m ∧ OwnR kI (w.heap.size + 1) wr (.slice a n c) d ∧ Below (w.heap.size + 1) (w.alloc (.cells #[.slice none 0 0] 46)) wr)
  case atStart => exact ⟨m, [], none, 0, 0, rfl, rfl, rfl, rfl, Nat.le_refl _, OwnR.nil _ _ _, Below.refl _ _⟩
  case round =>
    obtain ⟨k, d, a, n, c, hg, rfl, rfl, he, hk, ho, hb⟩ := hrel
    have R : Hid (gk = k ∧ dg m = d ++ dg k ∧ OwnR kI (w.heap.size + 1) wr (.slice a n c) d ∧ Below (w.heap.size + 1) (w.alloc (.cells #[.slice none 0 0] 46)) wr) := Lib.hid ⟨hg, he, ho, hb⟩
    clear hg he ho hb
    rcases Nat.eq_zero_or_pos k with h0 | h0
    · subst h0
      have H0 : Hid (wr.heap[w.heap.size]? = some (.cells #[.slice none 0 0] 46 (0, 0))) := Lib.hid ((R.out.2.2.2.block _ (Nat.lt_succ_self _)).trans (heap_alloc_new _ _))
      have t0 := cell1 H0.out
      have f0 := frz H0.out 0
      go_wp2_with fail
      refine bodyPost_ret (results_cell_row rfl _ _ w.heap.size 46 #[_] (0, 0) _ rfl (set1 H0.out _) Tryz.underlying46 rfl size_long) rfl ?_
      have ED : dg m = d := by rw [R.out.2.1, dg_zero, List.append_nil]
      have B1 : Below w.heap.size w wr := (BA.out _).trans (R.out.2.2.2.mono (Nat.le_succ _))
      have B2 : Below w.heap.size w (wr.setCell ⟨w.heap.size, 0, none⟩ (.slice a n c)) := B1.setCell (Nat.le_refl _) _
      refine ⟨a, n, c, rfl, ?_, (own_fr R.out.2.2.1).mono (Nat.le_succ _), B2⟩
      rw [ED]
      exact (R.out.2.2.1.kept (kept_set (F := fun y => y = w.heap.size) _ _ _ rfl) (fun j hj => by have := (R.out.2.2.1.lt j hj).1; show ¬ j = w.heap.size; omega)).row okI
    · obtain ⟨r, hr⟩ : ∃ r, r = k % 10 := ⟨_, rfl⟩
      obtain ⟨q, hq⟩ : ∃ q, q = k / 10 := ⟨_, rfl⟩
      have e1 : (k : Int).tmod 10 = (r : Int) := by rw [hr, Int.tmod_eq_emod_of_nonneg (by omega)]; omega
      have e2 : (k : Int).tdiv 10 = (q : Int) := by rw [hq, Int.tdiv_eq_ediv_of_nonneg (by omega)]; omega
      have Q : Hid (r = k % 10 ∧ q = k / 10) := Lib.hid ⟨hr, hq⟩
      have gp : decide ((k : Int) > 0) = true := decide_eq_true (by omega)
      clear hr hq
      have WZ : Hid (w.heap.size + 1 ≤ wr.heap.size) := Lib.hid (by have := R.out.2.2.2.size; rw [World.size_alloc] at this; exact this)
      have LN : Hid ((d.length + 1) * kI.b ≤ 140737488355328) := Lib.hid (by
        have q := HL.out
        rw [R.out.2.1, List.length_append] at q
        show (d.length + 1) * 8 ≤ _
        omega)
      go_wp2_with (at_builtin; refine app_rowB okI (gg := wr.heap.size) rfl _ _ rfl rfl R.out.2.2.1 WZ.out r (by simp) rfl rfl LN.out ?_; intro v' w' h1 h2)
      obtain ⟨a2, c2, rfl⟩ := h1.slice
      have Z : Hid (OwnR kI (w.heap.size + 1) w' (.slice a2 (d ++ [r]).length c2) (d ++ [r]) ∧ Below (w.heap.size + 1) (w.alloc (.cells #[.slice none 0 0] 46)) w') := Lib.hid ⟨h1, R.out.2.2.2.trans (grown_belowR h2 R.out.2.2.1 WZ.out)⟩
      clear h1 h2
      go_wp2_with fail
      go_roundg q
      case measure => have := R.out.1; have := Q.out.2; omega
      case rel => exact ⟨q, d ++ [r], a2, _, c2, rfl, by first | rfl | (congr 1; have := HM.out; have := Q.out.2; unfold wrap64; omega), rfl, by rw [R.out.2.1, dg_pos h0, ← Q.out.1, ← Q.out.2]; simp, by have := Q.out.2; omega, Z.out.1, Z.out.2⟩
theorem long_any (m : Nat) (w : World) (hm : m ≤ 9223372036854775807) :
    Calls Tryz.prog 28 #[.int .i64 (m : Int)] w fun e w' => ∃ a n c, e = .returned (.agg #[.slice a n c]) ∧ Row kI w' (.slice a n c) (dg m) ∧ Below w.heap.size w w' :=
  (long_fr m w hm).mono fun _ _ ⟨a, n, c, h1, h2, _, h4⟩ => ⟨a, n, c, h1, h2, h4⟩
end Lg
end Go.Proofs.YtmkdmfjdhajiaaaGreatDoor
end S1

section S2
namespace Go.Proofs.YtmkdmfjdhajiaaaGreatDoor
open Go.RowKit Go.Lib
open Go.Sort (grow)
namespace Lg
theorem at_q {w : World} {a : Option Addr} {n c : Nat} {d : List Nat} (hv : Row kI w (.slice a n c) d) (i : Nat) (x : Nat) (hx : x = d.getD i 0) : ∀ dq os, Calls Tryz.prog 46 #[.agg #[.slice a n c], .int .i64 (i : Int)] (grow (redrawn w dq) os) fun e w'' => e = .returned (.int .i64 (x : Int)) ∧ ∃ p : Regrown, w'' = grow (redrawn w p.d) p.os := fun dq os => by
  subst hx
  exact Calls.regrown_of ((at_any a n c d i _ (hv.below (below_regrown w dq os))).mono fun _ _ ⟨e, q⟩ => ⟨e, q⟩)
theorem plus_step {A B d : List Nat} {i cr x y s : Nat} (h : vl d + 10 ^ i * cr = vl (A.take i) + vl (B.take i)) (hl : d.length = i) (hx : x = A.getD i 0) (hy : y = B.getD i 0) (hs : s = x + y + cr) : vl (d ++ [s % 10]) + 10 ^ (i + 1) * (s / 10) = vl (A.take (i + 1)) + vl (B.take (i + 1)) := by
  rw [vl_snoc, hl, vl_take_succ', vl_take_succ', ← hx, ← hy, Nat.pow_succ]
  have e1 : 10 ^ i * (s % 10) + 10 ^ i * 10 * (s / 10) = 10 ^ i * s := by
    rw [Nat.mul_assoc, ← Nat.mul_add]; congr 1; omega
  have e2 : 10 ^ i * s = 10 ^ i * x + 10 ^ i * y + 10 ^ i * cr := by rw [hs, Nat.mul_add, Nat.mul_add]
  omega
set_option maxHeartbeats 8000000 in
set_option maxRecDepth 100000 in
theorem plus_any (a a' : Option Addr) (n n' c c' : Nat) (p q : Nat) (w : World) (hv : Row kI w (.slice a n c) (dg p)) (hu : Row kI w (.slice a' n' c') (dg q)) (hn : n ≤ 1000) (hn' : n' ≤ 1000) :
    Calls Tryz.prog 27 #[.agg #[.slice a n c], .agg #[.slice a' n' c']] w fun e w' => ∃ a n c, e = .returned (.agg #[.slice a n c]) ∧ Row kI w' (.slice a n c) (dg (p + q)) ∧ Below w.heap.size w w' := by
  have V := Lib.hid hv
  have U := Lib.hid hu
  have HN : Hid (n = (dg p).length) := Lib.hid (by obtain ⟨_, _, e, _⟩ := hv.len; simp only [Value.slice.injEq] at e; exact e.2.1)
  have HN' : Hid (n' = (dg q).length) := Lib.hid (by obtain ⟨_, _, e, _⟩ := hu.len; simp only [Value.slice.injEq] at e; exact e.2.1)
  obtain ⟨M, hM⟩ : ∃ M, M = max n n' := ⟨_, rfl⟩
  have hM1 : n ≤ M := by omega
  have hM2 : n' ≤ M := by omega
  have hM3 : M ≤ 1000 := by omega
  have hM4 : Hid (M = n ∨ M = n') := Lib.hid (by omega)
  obtain ⟨A, hA⟩ : ∃ A, A = dg p := ⟨_, rfl⟩
  obtain ⟨B, hB⟩ : ∃ B, B = dg q := ⟨_, rfl⟩
  rw [← hA] at V HN
  rw [← hB] at U HN'
  have DD : Hid (Dgs A ∧ Dgs B ∧ vl A = p ∧ vl B = q) := Lib.hid (by rw [hA, hB]; exact ⟨dgs_dg _, dgs_dg _, vl_dg _, vl_dg _⟩)
  obtain ⟨W3, hW3⟩ : ∃ W, W = ((w.alloc (.cells #[.slice a n c] 46)).alloc (.cells #[.slice a' n' c'] 46)).alloc (.cells #[.slice none 0 0] 46) := ⟨_, rfl⟩
  have F3 : Hid (W3.heap.size = w.heap.size + 3 ∧ Below w.heap.size w W3 ∧ W3.heap[w.heap.size]? = some (.cells #[.slice a n c] 46 (0, 0)) ∧ W3.heap[w.heap.size + 1]? = some (.cells #[.slice a' n' c'] 46 (0, 0)) ∧ W3.heap[w.heap.size + 1 + 1]? = some (.cells #[.slice none 0 0] 46 (0, 0))) := Lib.hid (by
    subst hW3
    refine ⟨by simp, (((Below.refl _ w).alloc (Nat.le_refl _) _).alloc (by simp) _).alloc (by simp; omega) _, ?_, ?_, ?_⟩
    · rw [Below.heap_alloc _ _ _ (by simp; omega), Below.heap_alloc _ _ _ (by simp), heap_alloc_new]
    · rw [Below.heap_alloc _ _ _ (by simp)]
      have q := heap_alloc_new (w.alloc (.cells #[.slice a n c] 46)) (.cells #[.slice a' n' c'] 46)
      simpa using q
    · have q := heap_alloc_new ((w.alloc (.cells #[.slice a n c] 46)).alloc (.cells #[.slice a' n' c'] 46)) (.cells #[.slice none 0 0] 46)
      simpa using q)
  have EW := Lib.hid hW3
  clear hW3 hM hA hB hv hu hn hn'
  go_enter Tryz.func27, Tryz.ntmps27
  go_wp2_with fail
  rw [← EW.out]
  clear EW
  go_loopg [5, 6, 7] (M + 1) (fun g sd sc si wr => ∃ (i cr : Nat) (d : List Nat) (ad : Option Addr) (m cap : Nat), g = M + 1 - i ∧ i ≤ M + 1 ∧ si = .int .i64 i ∧ sc = .int .i64 cr ∧ sd = .slice ad m cap ∧ (i ≤ M ∨ cr = 0) ∧ cr ≤ 1 ∧ Dgs d ∧ d.length = i ∧ vl d + 10 ^ i * cr = vl (A.take i) + vl (B.take i) ∧ OwnR kI (w.heap.size + 3) wr (.slice ad m cap) d ∧ Below (w.heap.size + 3) W3 wr)
  case atStart => exact ⟨0, 0, [], none, 0, 0, rfl, by omega, rfl, rfl, rfl, Or.inr rfl, by omega, (fun x hx => by cases hx), rfl, rfl, OwnR.nil _ _ _, Below.refl _ _⟩
  case round =>
    obtain ⟨i, cr, d, ad, m, cap, hg, hi, rfl, rfl, rfl, hor, hcr, hD, hlen, hval, ho, hb⟩ := hrel
    have R : Hid (gk = M + 1 - i ∧ (i ≤ M ∨ cr = 0) ∧ Dgs d ∧ d.length = i ∧ vl d + 10 ^ i * cr = vl (A.take i) + vl (B.take i) ∧ OwnR kI (w.heap.size + 3) wr (.slice ad m cap) d ∧ Below (w.heap.size + 3) W3 wr) := Lib.hid ⟨hg, hor, hD, hlen, hval, ho, hb⟩
    clear hg hor hD hlen hval ho hb
    have BW : Hid (Below w.heap.size w wr) := Lib.hid (F3.out.2.1.trans (R.out.2.2.2.2.2.2.mono (by omega)))
    have H0 : Hid (wr.heap[w.heap.size]? = some (.cells #[.slice a n c] 46 (0, 0))) := Lib.hid ((R.out.2.2.2.2.2.2.block _ (by omega)).trans F3.out.2.2.1)
    have H1 : Hid (wr.heap[w.heap.size + 1]? = some (.cells #[.slice a' n' c'] 46 (0, 0))) := Lib.hid ((R.out.2.2.2.2.2.2.block _ (by omega)).trans F3.out.2.2.2.1)
    have H2 : Hid (wr.heap[w.heap.size + 1 + 1]? = some (.cells #[.slice none 0 0] 46 (0, 0))) := Lib.hid ((R.out.2.2.2.2.2.2.block _ (by omega)).trans F3.out.2.2.2.2)
    have p0 := cell1 H0.out
    have p1 := cell1 H1.out
    obtain ⟨x, hx⟩ : ∃ x, x = A.getD i 0 := ⟨_, rfl⟩
    obtain ⟨y, hy⟩ : ∃ y, y = B.getD i 0 := ⟨_, rfl⟩
    have hx9 : x < 10 := by rw [hx]; exact getD_lt DD.out.1 i
    have hy9 : y < 10 := by rw [hy]; exact getD_lt DD.out.2.1 i
    obtain ⟨s, hs⟩ : ∃ s, s = x + y + cr := ⟨_, rfl⟩
    obtain ⟨r, hr⟩ : ∃ r, r = s % 10 := ⟨_, rfl⟩
    obtain ⟨qt, hq⟩ : ∃ qt, qt = s / 10 := ⟨_, rfl⟩
    have e0 : IntKind.i64.wrap ((x : Int) + (y : Int)) = (x : Int) + (y : Int) := by simp [IntKind.wrap, IntKind.bits, IntKind.signed]; omega
    have e00 : IntKind.i64.wrap ((x : Int) + (y : Int) + (cr : Int)) = (s : Int) := by rw [hs]; simp [IntKind.wrap, IntKind.bits, IntKind.signed]; omega
    have e1 : (s : Int).tmod 10 = (r : Int) := by rw [hr, Int.tmod_eq_emod_of_nonneg (by omega)]; omega
    have e2 : (s : Int).tdiv 10 = (qt : Int) := by rw [hq, Int.tdiv_eq_ediv_of_nonneg (by omega)]; omega
    have hq1 : qt ≤ 1 := by omega
    have Q : Hid (x = A.getD i 0 ∧ y = B.getD i 0 ∧ s = x + y + cr ∧ r = s % 10 ∧ qt = s / 10 ∧ cr ≤ 1) := Lib.hid ⟨hx, hy, hs, hr, hq, hcr⟩
    clear hx hy hs hr hq hcr
    have A0 := Lib.hid (at_q (V.out.below BW.out) i x Q.out.1)
    have A1 := Lib.hid (at_q (U.out.below BW.out) i y Q.out.2.1)
    have r0 : ∀ (dq : Nat) (os : Array Obj), (grow (redrawn wr dq) os).cell? ⟨w.heap.size, 0, none⟩ = some (.slice a n c) := fun dq os => cell_regrown p0 dq os
    have r1 : ∀ (dq : Nat) (os : Array Obj), (grow (redrawn wr dq) os).cell? ⟨w.heap.size + 1, 0, none⟩ = some (.slice a' n' c') := fun dq os => cell_regrown p1 dq os
    have ST : Hid (vl (d ++ [r]) + 10 ^ (i + 1) * qt = vl (A.take (i + 1)) + vl (B.take (i + 1)) ∧ Dgs (d ++ [r])) := Lib.hid ⟨by rw [Q.out.2.2.2.1, Q.out.2.2.2.2.1]; exact plus_step R.out.2.2.2.2.1 R.out.2.2.2.1 Q.out.1 Q.out.2.1 Q.out.2.2.1, dgs_app R.out.2.2.1 (dgs_one (by have := Q.out.2.2.2.1; omega))⟩
    have LN : Hid ((d.length + 1) * kI.b ≤ 140737488355328) := Lib.hid (by rw [R.out.2.2.2.1]; show (i + 1) * 8 ≤ _; omega)
    by_cases g1 : i < n
    · have hiM : i ≤ M := by omega
      have ORR : Hid (i + 1 ≤ M ∨ qt = 0) := Lib.hid (Or.inl (by omega))
      have g1 : decide ((i : Int) < (n : Int)) = true := decide_eq_true (by omega)
      go_wp2_with fail
      refine wp_region_quiet_below (by kernel_rfl) (by kernel_rfl) ?_
      repeat (go_big_quiet_step (first | with_reducible exact A0.out _ _ | with_reducible exact A1.out _ _))
      refine wpQuiet_nil ?_
      rintro _ ⟨⟨dq, osq⟩, hw''⟩
      subst hw''
      have QB := below_regrown wr dq osq
      obtain ⟨W5, hW5⟩ : ∃ W, W = grow (redrawn wr dq) osq := ⟨_, rfl⟩
      rw [← hW5] at QB ⊢
      have S5 : Hid (OwnR kI (w.heap.size + 3) W5 (.slice ad m cap) d ∧ Below (w.heap.size + 3) W3 W5 ∧ w.heap.size + 3 ≤ W5.heap.size) := Lib.hid (by have q := R.out.2.2.2.2.2.2.size; rw [F3.out.1] at q; have b5 := R.out.2.2.2.2.2.2.trans (QB.mono q); have q5 := b5.size; rw [F3.out.1] at q5; exact ⟨R.out.2.2.2.2.2.1.below QB, b5, q5⟩)
      clear hW5 QB r0 r1 p0 p1
      go_wp2_with (at_builtin; refine app_rowB okI (gg := W5.heap.size) rfl _ _ rfl rfl S5.out.1 S5.out.2.2 r (by simp) rfl rfl LN.out ?_; intro v' w' h1 h2)
      obtain ⟨a2, c2, rfl⟩ := h1.slice
      have Z : Hid (OwnR kI (w.heap.size + 3) w' (.slice a2 (d ++ [r]).length c2) (d ++ [r]) ∧ Below (w.heap.size + 3) W3 w') := Lib.hid ⟨h1, S5.out.2.1.trans (grown_belowR h2 S5.out.1 S5.out.2.2)⟩
      clear h1 h2
      go_wp2_with fail
      go_roundg (M + 1 - (i + 1))
      case measure => have := R.out.1; omega
      case rel => exact ⟨i + 1, qt, d ++ [r], a2, _, c2, rfl, by omega, by go_num, by first | rfl | go_num, rfl, ORR.out, by omega, ST.out.2, by rw [List.length_append, R.out.2.2.2.1]; rfl, ST.out.1, Z.out.1, Z.out.2⟩
    · by_cases g2 : i < n'
      · have hiM : i ≤ M := by omega
        have ORR : Hid (i + 1 ≤ M ∨ qt = 0) := Lib.hid (Or.inl (by omega))
        have g1 : decide ((i : Int) < (n : Int)) = false := decide_eq_false (by omega)
        have g2 : decide ((i : Int) < (n' : Int)) = true := decide_eq_true (by omega)
        go_wp2_with fail
        refine wp_region_quiet_below (by kernel_rfl) (by kernel_rfl) ?_
        repeat (go_big_quiet_step (first | with_reducible exact A0.out _ _ | with_reducible exact A1.out _ _))
        refine wpQuiet_nil ?_
        rintro _ ⟨⟨dq, osq⟩, hw''⟩
        subst hw''
        have QB := below_regrown wr dq osq
        obtain ⟨W5, hW5⟩ : ∃ W, W = grow (redrawn wr dq) osq := ⟨_, rfl⟩
        rw [← hW5] at QB ⊢
        have S5 : Hid (OwnR kI (w.heap.size + 3) W5 (.slice ad m cap) d ∧ Below (w.heap.size + 3) W3 W5 ∧ w.heap.size + 3 ≤ W5.heap.size) := Lib.hid (by have q := R.out.2.2.2.2.2.2.size; rw [F3.out.1] at q; have b5 := R.out.2.2.2.2.2.2.trans (QB.mono q); have q5 := b5.size; rw [F3.out.1] at q5; exact ⟨R.out.2.2.2.2.2.1.below QB, b5, q5⟩)
        clear hW5 QB r0 r1 p0 p1
        go_wp2_with (at_builtin; refine app_rowB okI (gg := W5.heap.size) rfl _ _ rfl rfl S5.out.1 S5.out.2.2 r (by simp) rfl rfl LN.out ?_; intro v' w' h1 h2)
        obtain ⟨a2, c2, rfl⟩ := h1.slice
        have Z : Hid (OwnR kI (w.heap.size + 3) w' (.slice a2 (d ++ [r]).length c2) (d ++ [r]) ∧ Below (w.heap.size + 3) W3 w') := Lib.hid ⟨h1, S5.out.2.1.trans (grown_belowR h2 S5.out.1 S5.out.2.2)⟩
        clear h1 h2
        go_wp2_with fail
        go_roundg (M + 1 - (i + 1))
        case measure => have := R.out.1; omega
        case rel => exact ⟨i + 1, qt, d ++ [r], a2, _, c2, rfl, by omega, by go_num, by first | rfl | go_num, rfl, ORR.out, by omega, ST.out.2, by rw [List.length_append, R.out.2.2.2.1]; rfl, ST.out.1, Z.out.1, Z.out.2⟩
      · by_cases g3 : 0 < cr
        · have ORR : Hid (i + 1 ≤ M ∨ qt = 0) := Lib.hid (Or.inr (by
              have z1 : x = 0 := by rw [Q.out.1, List.getD_eq_getElem?_getD, List.getElem?_eq_none (by rw [← HN.out]; omega)]; rfl
              have z2 : y = 0 := by rw [Q.out.2.1, List.getD_eq_getElem?_getD, List.getElem?_eq_none (by rw [← HN'.out]; omega)]; rfl
              have := Q.out
              omega))
          have hiM : i ≤ M := R.out.2.1.elim id (fun q => by omega)
          have g1 : decide ((i : Int) < (n : Int)) = false := decide_eq_false (by omega)
          have g2 : decide ((i : Int) < (n' : Int)) = false := decide_eq_false (by omega)
          have g3 : decide ((cr : Int) > 0) = true := decide_eq_true (by omega)
          go_wp2_with fail
          refine wp_region_quiet_below (by kernel_rfl) (by kernel_rfl) ?_
          repeat (go_big_quiet_step (first | with_reducible exact A0.out _ _ | with_reducible exact A1.out _ _))
          refine wpQuiet_nil ?_
          rintro _ ⟨⟨dq, osq⟩, hw''⟩
          subst hw''
          have QB := below_regrown wr dq osq
          obtain ⟨W5, hW5⟩ : ∃ W, W = grow (redrawn wr dq) osq := ⟨_, rfl⟩
          rw [← hW5] at QB ⊢
          have S5 : Hid (OwnR kI (w.heap.size + 3) W5 (.slice ad m cap) d ∧ Below (w.heap.size + 3) W3 W5 ∧ w.heap.size + 3 ≤ W5.heap.size) := Lib.hid (by have q := R.out.2.2.2.2.2.2.size; rw [F3.out.1] at q; have b5 := R.out.2.2.2.2.2.2.trans (QB.mono q); have q5 := b5.size; rw [F3.out.1] at q5; exact ⟨R.out.2.2.2.2.2.1.below QB, b5, q5⟩)
          clear hW5 QB r0 r1 p0 p1
          go_wp2_with (at_builtin; refine app_rowB okI (gg := W5.heap.size) rfl _ _ rfl rfl S5.out.1 S5.out.2.2 r (by simp) rfl rfl LN.out ?_; intro v' w' h1 h2)
          obtain ⟨a2, c2, rfl⟩ := h1.slice
          have Z : Hid (OwnR kI (w.heap.size + 3) w' (.slice a2 (d ++ [r]).length c2) (d ++ [r]) ∧ Below (w.heap.size + 3) W3 w') := Lib.hid ⟨h1, S5.out.2.1.trans (grown_belowR h2 S5.out.1 S5.out.2.2)⟩
          clear h1 h2
          go_wp2_with fail
          go_roundg (M + 1 - (i + 1))
          case measure => have := R.out.1; omega
          case rel => exact ⟨i + 1, qt, d ++ [r], a2, _, c2, rfl, by omega, by go_num, by first | rfl | go_num, rfl, ORR.out, by omega, ST.out.2, by rw [List.length_append, R.out.2.2.2.1]; rfl, ST.out.1, Z.out.1, Z.out.2⟩
        · have cr0 : cr = 0 := by omega
          subst cr0
          have g1 : decide ((i : Int) < (n : Int)) = false := decide_eq_false (by omega)
          have g2 : decide ((i : Int) < (n' : Int)) = false := decide_eq_false (by omega)
          have EQ : Hid (vl d = p + q) := Lib.hid (by have q := R.out.2.2.2.2.1; rw [List.take_of_length_le (by rw [← HN.out]; omega), List.take_of_length_le (by rw [← HN'.out]; omega), DD.out.2.2.1, DD.out.2.2.2] at q; simpa using q)
          have CT := Lib.hid (cut_any (.slice ad m cap) d wr (R.out.2.2.2.2.2.1.row okI) R.out.2.2.1)
          rw [EQ.out] at CT
          go_wp2_with fail
          refine CT.out.mono ?_
          rintro e w6 ⟨a6, n6, c6, rfl, hr6, hb6⟩
          have B6 : Hid (Below (w.heap.size + 3) W3 w6) := Lib.hid (R.out.2.2.2.2.2.2.trans (hb6.mono (by have q := R.out.2.2.2.2.2.2.size; rw [F3.out.1] at q; exact q)))
          have R6 := Lib.hid hr6
          have H6 : Hid (w6.heap[w.heap.size + 1 + 1]? = some (.cells #[.slice none 0 0] 46 (0, 0))) := Lib.hid ((B6.out.block _ (by omega)).trans F3.out.2.2.2.2)
          have t6 := cell1 H6.out
          have f6 := frz H6.out 0
          clear hr6 hb6 p0 p1
          go_wp2_with fail
          refine bodyPost_ret (results_cell_row rfl _ _ (w.heap.size + 1 + 1) 46 #[_] (0, 0) _ rfl (set1 H6.out _) Tryz.underlying46 rfl size_long) rfl ?_
          have B7 : Below w.heap.size w (w6.setCell ⟨w.heap.size + 1 + 1, 0, none⟩ (.slice a6 n6 c6)) := (F3.out.2.1.trans (B6.out.mono (by omega))).setCell (show w.heap.size ≤ w.heap.size + 1 + 1 by omega) _
          refine ⟨a6, n6, c6, rfl, ?_, B7⟩
          exact row_set H6.out R6.out _
end Lg
end Go.Proofs.YtmkdmfjdhajiaaaGreatDoor
end S2

section S3
namespace Go.Proofs.YtmkdmfjdhajiaaaGreatDoor
open Go.RowKit Go.Lib
open Go.Sort (grow)
namespace Lg
set_option maxHeartbeats 8000000 in
set_option maxRecDepth 100000 in
theorem less_any (a a' : Option Addr) (n n' c c' : Nat) (p q : Nat) (w : World) (hv : Row kI w (.slice a n c) (dg p)) (hu : Row kI w (.slice a' n' c') (dg q)) (hn : n ≤ 1000) :
    Calls Tryz.prog 48 #[.agg #[.slice a n c], .agg #[.slice a' n' c']] w fun e w' => e = .returned (.bool (decide (p < q))) ∧ Below w.heap.size w w' := by
  have V := Lib.hid hv
  have U := Lib.hid hu
  have HN : Hid (n = (dg p).length) := Lib.hid (by obtain ⟨_, _, e, _⟩ := hv.len; simp only [Value.slice.injEq] at e; exact e.2.1)
  have HN' : Hid (n' = (dg q).length) := Lib.hid (by obtain ⟨_, _, e, _⟩ := hu.len; simp only [Value.slice.injEq] at e; exact e.2.1)
  obtain ⟨A, hA⟩ : ∃ A, A = dg p := ⟨_, rfl⟩
  obtain ⟨B, hB⟩ : ∃ B, B = dg q := ⟨_, rfl⟩
  rw [← hA] at V HN
  rw [← hB] at U HN'
  have DD : Hid (Dgs A ∧ Dgs B ∧ vl A = p ∧ vl B = q ∧ A = dg p ∧ B = dg q) := Lib.hid (by rw [hA, hB]; exact ⟨dgs_dg _, dgs_dg _, vl_dg _, vl_dg _, rfl, rfl⟩)
  obtain ⟨r, hr⟩ : ∃ r, r = decide (p < q) := ⟨_, rfl⟩
  rw [← hr]
  have HR := Lib.hid hr
  obtain ⟨W3, hW3⟩ : ∃ W, W = (w.alloc (.cells #[.slice a n c] 46)).alloc (.cells #[.slice a' n' c'] 46) := ⟨_, rfl⟩
  have F3 : Hid (W3.heap.size = w.heap.size + 2 ∧ Below w.heap.size w W3 ∧ W3.heap[w.heap.size]? = some (.cells #[.slice a n c] 46 (0, 0)) ∧ W3.heap[w.heap.size + 1]? = some (.cells #[.slice a' n' c'] 46 (0, 0))) := Lib.hid (by
    subst hW3
    refine ⟨by simp, (((Below.refl _ w).alloc (Nat.le_refl _) _).alloc (by simp) _), ?_, ?_⟩
    · rw [Below.heap_alloc _ _ _ (by simp), heap_alloc_new]
    · have q := heap_alloc_new (w.alloc (.cells #[.slice a n c] 46)) (.cells #[.slice a' n' c'] 46)
      simpa using q)
  have EW := Lib.hid hW3
  clear hW3
  clear hA hB hv hu hr
  by_cases hnn : n = n'
  · subst hnn
    go_enter Tryz.func48, Tryz.ntmps48
    go_wp2_with fail
    rw [← EW.out]
    clear EW
    go_loopg [5] n (fun g si wr => ∃ k : Nat, g = k ∧ k ≤ n ∧ si = .int .i64 ((k : Int) - 1) ∧ A.drop k = B.drop k ∧ Below (w.heap.size + 2) W3 wr)
    case atStart => exact ⟨n, rfl, Nat.le_refl _, by first | rfl | (congr 1; unfold wrap64; omega), by rw [List.drop_eq_nil_of_le (by rw [← HN.out]; exact Nat.le_refl _), List.drop_eq_nil_of_le (by rw [← HN'.out]; exact Nat.le_refl _)], Below.refl _ _⟩
    case round =>
      obtain ⟨k, hg, hk, rfl, hd, hb⟩ := hrel
      have R : Hid (gk = k ∧ A.drop k = B.drop k ∧ Below (w.heap.size + 2) W3 wr) := Lib.hid ⟨hg, hd, hb⟩
      clear hg hd hb
      have BW : Hid (Below w.heap.size w wr) := Lib.hid (F3.out.2.1.trans (R.out.2.2.mono (by omega)))
      rcases Nat.eq_zero_or_pos k with h0 | h0
      · subst h0
        have gz : decide (((0 : Nat) : Int) - 1 ≥ 0) = false := by decide
        have E : Hid (r = false) := Lib.hid (by
          rw [HR.out]
          have e : A = B := by have := R.out.2.1; simpa using this
          refine decide_eq_false ?_
          rw [← DD.out.2.2.1, ← DD.out.2.2.2.1, e]; omega)
        go_wp2_with fail
        go_ret
        exact ⟨by rw [E.out]; rfl, BW.out⟩
      · obtain ⟨i, rfl⟩ : ∃ i, k = i + 1 := ⟨k - 1, by omega⟩
        have ei : (((i + 1 : Nat) : Int) - 1) = (i : Int) := by omega
        rw [ei]
        clear ei
        have gi : decide ((i : Int) ≥ 0) = true := decide_eq_true (by omega)
        have hin : (i : Int) < (n : Int) := by omega
        obtain ⟨b, off, rfl, c0⟩ := Row.one (V.out.below BW.out) i (by rw [← HN.out]; omega)
        obtain ⟨b', off', rfl, c1⟩ := Row.one (U.out.below BW.out) i (by rw [← HN'.out]; omega)
        obtain ⟨x, hx⟩ : ∃ x, x = A.getD i 0 := ⟨_, rfl⟩
        obtain ⟨y, hy⟩ : ∃ y, y = B.getD i 0 := ⟨_, rfl⟩
        rw [← hx] at c0
        rw [← hy] at c1
        have Q : Hid (x = A.getD i 0 ∧ y = B.getD i 0) := Lib.hid ⟨hx, hy⟩
        have p0 := cell1 ((R.out.2.2.block _ (by omega)).trans F3.out.2.2.1)
        have p1 := cell1 ((R.out.2.2.block _ (by omega)).trans F3.out.2.2.2)
        have r0 : ∀ (dq : Nat) (os : Array Obj), (grow (redrawn wr dq) os).cell? ⟨w.heap.size, 0, none⟩ = some (.slice (some ⟨b, off, none⟩) n c) := fun dq os => cell_regrown p0 dq os
        have r1 : ∀ (dq : Nat) (os : Array Obj), (grow (redrawn wr dq) os).cell? ⟨w.heap.size + 1, 0, none⟩ = some (.slice (some ⟨b', off', none⟩) n c') := fun dq os => cell_regrown p1 dq os
        have r2 : ∀ (dq : Nat) (os : Array Obj), (grow (redrawn wr dq) os).cell? ⟨b, off + i, none⟩ = some (.int .i64 (x : Int)) := fun dq os => cell_regrown c0 dq os
        have r3 : ∀ (dq : Nat) (os : Array Obj), (grow (redrawn wr dq) os).cell? ⟨b', off' + i, none⟩ = some (.int .i64 (y : Int)) := fun dq os => cell_regrown c1 dq os
        clear hx hy
        by_cases hxy : x = y
        · have gx : ((x : Int) == (y : Int)) = true := by rw [beq_iff_eq]; omega
          have gx2 : ((x : Int) != (y : Int)) = false := by rw [bne_eq_false_iff_eq]; omega
          have HXY := Lib.hid hxy
          clear hxy
          go_wp2_with fail
          refine wp_region_quiet_below (by kernel_rfl) (by kernel_rfl) ?_
          repeat (go_big_quiet_step (fail))
          refine wpQuiet_nil ?_
          rintro _ ⟨⟨dq, osq⟩, hw''⟩
          subst hw''
          have QB := below_regrown wr dq osq
          obtain ⟨W5, hW5⟩ : ∃ W, W = grow (redrawn wr dq) osq := ⟨_, rfl⟩
          rw [← hW5] at QB ⊢
          have S5 : Hid (Below (w.heap.size + 2) W3 W5) := Lib.hid (R.out.2.2.trans (QB.mono (by have q := R.out.2.2.size; rw [F3.out.1] at q; exact q)))
          clear hW5 QB r0 r1 r2 r3 p0 p1 c0 c1
          go_wp2_with fail
          go_roundg i
          case measure => have := R.out.1; omega
          case rel => exact ⟨i, rfl, by omega, by first | rfl | (congr 1; unfold wrap64; omega), drop_eq_of (by rw [← HN.out, ← HN'.out]) i (by rw [← HN.out]; omega) R.out.2.1 (by rw [← Q.out.1, ← Q.out.2]; exact HXY.out), S5.out⟩
        · have gx : ((x : Int) == (y : Int)) = false := by rw [beq_eq_false_iff_ne]; omega
          have gx2 : ((x : Int) != (y : Int)) = true := by rw [bne_iff_ne]; omega
          have E : Hid (r = decide (x < y)) := Lib.hid (by
              rw [HR.out]
              rcases Nat.lt_or_gt_of_ne hxy with z | z
              · have := less_at DD.out.1 (by rw [← HN.out, ← HN'.out]) i (by rw [← HN.out]; omega) R.out.2.1 (by rw [← Q.out.1, ← Q.out.2]; exact z)
                rw [DD.out.2.2.1, DD.out.2.2.2.1] at this
                rw [decide_eq_true this, decide_eq_true z]
              · have := less_at DD.out.2.1 (by rw [← HN.out, ← HN'.out]) i (by rw [← HN'.out]; omega) R.out.2.1.symm (by rw [← Q.out.1, ← Q.out.2]; exact z)
                rw [DD.out.2.2.1, DD.out.2.2.2.1] at this
                rw [decide_eq_false (show ¬ p < q by omega), decide_eq_false (show ¬ x < y by omega)])
          clear hxy
          go_wp2_with fail
          refine wp_region_quiet_below (by kernel_rfl) (by kernel_rfl) ?_
          repeat (go_big_quiet_step (fail))
          refine wpQuiet_nil ?_
          rintro _ ⟨⟨dq, osq⟩, hw''⟩
          subst hw''
          have QB := below_regrown wr dq osq
          obtain ⟨W5, hW5⟩ : ∃ W, W = grow (redrawn wr dq) osq := ⟨_, rfl⟩
          rw [← hW5] at QB ⊢
          have S5 : Hid (Below (w.heap.size + 2) W3 W5 ∧ Below w.heap.size w W5) := Lib.hid ⟨R.out.2.2.trans (QB.mono (by have q := R.out.2.2.size; rw [F3.out.1] at q; exact q)), BW.out.trans (QB.mono BW.out.size)⟩
          have u0 := r0 dq osq
          have u1 := r1 dq osq
          have u2 := r2 dq osq
          have u3 := r3 dq osq
          rw [← hW5] at u0 u1 u2 u3
          have s0 : ∀ (dq : Nat) (os : Array Obj), (grow (redrawn W5 dq) os).cell? ⟨w.heap.size, 0, none⟩ = some (.slice (some ⟨b, off, none⟩) n c) := fun dq os => cell_regrown u0 dq os
          have s1 : ∀ (dq : Nat) (os : Array Obj), (grow (redrawn W5 dq) os).cell? ⟨w.heap.size + 1, 0, none⟩ = some (.slice (some ⟨b', off', none⟩) n c') := fun dq os => cell_regrown u1 dq os
          have s2 : ∀ (dq : Nat) (os : Array Obj), (grow (redrawn W5 dq) os).cell? ⟨b, off + i, none⟩ = some (.int .i64 (x : Int)) := fun dq os => cell_regrown u2 dq os
          have s3 : ∀ (dq : Nat) (os : Array Obj), (grow (redrawn W5 dq) os).cell? ⟨b', off' + i, none⟩ = some (.int .i64 (y : Int)) := fun dq os => cell_regrown u3 dq os
          clear hW5 QB r0 r1 r2 r3 p0 p1 c0 c1 u0 u1 u2 u3
          go_wp2_with fail
          refine wp_region_quiet_below (by kernel_rfl) (by kernel_rfl) ?_
          repeat (go_big_quiet_step (fail))
          refine wpQuiet_nil ?_
          rintro _ ⟨⟨d6, o6⟩, hw''⟩
          subst hw''
          have QB := below_regrown W5 d6 o6
          obtain ⟨W6, hW6⟩ : ∃ W, W = grow (redrawn W5 d6) o6 := ⟨_, rfl⟩
          rw [← hW6] at QB ⊢
          have S6 : Hid (Below w.heap.size w W6) := Lib.hid (S5.out.2.trans (QB.mono S5.out.2.size))
          clear hW6 QB s0 s1 s2 s3
          go_wp2_with fail
          go_ret
          exact ⟨by rw [E.out]; rfl, S6.out⟩
  · have g1 : ((n : Int) == (n' : Int)) = false := by rw [beq_eq_false_iff_ne]; omega
    have g2 : ((n : Int) != (n' : Int)) = true := by rw [bne_iff_ne]; omega
    have E : Hid (r = decide ((n : Int) < (n' : Int))) := Lib.hid (by
      rw [HR.out]
      rcases Nat.lt_or_gt_of_ne hnn with z | z
      · have := dg_len_eq (n := p) (m := q) (by rw [← DD.out.2.2.2.2.1, ← DD.out.2.2.2.2.2, ← HN.out, ← HN'.out]; exact z)
        rw [decide_eq_true this, decide_eq_true (show (n : Int) < n' by omega)]
      · have := dg_len_eq (n := q) (m := p) (by rw [← DD.out.2.2.2.2.1, ← DD.out.2.2.2.2.2, ← HN.out, ← HN'.out]; exact z)
        rw [decide_eq_false (show ¬ p < q by omega), decide_eq_false (show ¬ (n : Int) < n' by omega)])
    clear hnn
    go_enter Tryz.func48, Tryz.ntmps48
    go_wp2_with fail
    rw [← EW.out]
    go_ret
    exact ⟨by rw [E.out]; first | rfl | simp, F3.out.2.1⟩

theorem minus_step {A B d : List Nat} {i bo bo' x y r : Nat} (h' : vl d + vl (B.take i) = vl (A.take i) + 10 ^ i * bo) (hl : d.length = i) (hx : x = A.getD i 0) (hy : y = B.getD i 0) (hs : r + y + bo = x + 10 * bo') : vl (d ++ [r]) + vl (B.take (i + 1)) = vl (A.take (i + 1)) + 10 ^ (i + 1) * bo' := by
  rw [vl_snoc, hl, vl_take_succ', vl_take_succ', ← hx, ← hy, Nat.pow_succ]
  have e1 : 10 ^ i * r + 10 ^ i * y + 10 ^ i * bo = 10 ^ i * x + 10 ^ i * 10 * bo' := by
    rw [Nat.mul_assoc, ← Nat.mul_add, ← Nat.mul_add, ← Nat.mul_add, hs]
  omega
end Lg
end Go.Proofs.YtmkdmfjdhajiaaaGreatDoor
end S3

section S4
namespace Go.Proofs.YtmkdmfjdhajiaaaGreatDoor
open Go.RowKit Go.Lib
open Go.Sort (grow)
namespace Lg
theorem made_int (n : Nat) : (madeCells (Value.int .i64 0).cells (n * 1)).toList = cellsR kI (List.replicate n 0) := by
  have e : (Value.int .i64 0).cells = #[.int .i64 0] := rfl
  rw [e, madeCells, Nat.mul_one]
  apply List.ext_getElem
  · rw [cellsR_length okI, List.length_replicate]; simp [kI]
  · intro i h1 h2
    have hi : i < n := by simpa using h1
    have q := cellsR_at okI (List.replicate n 0) i (by simpa using hi) 0 (by decide)
    have e2 : i * kI.k + 0 = i := by show i * 1 + 0 = i; omega
    rw [e2, List.getElem?_eq_getElem h2] at q
    have q2 : (cellsR kI (List.replicate n 0))[i] = .int .i64 ((((List.replicate n 0).getD i 0 : Nat)) : Int) := by
      have : some (cellsR kI (List.replicate n 0))[i] = some (Value.int .i64 ((((List.replicate n 0).getD i 0 : Nat)) : Int)) := q
      injection this
    rw [q2]
    have e3 : (List.replicate n 0).getD i 0 = 0 := by rw [List.getD_eq_getElem?_getD]; simp [hi]
    rw [e3]
    simp [Nat.mod_one]
theorem int_info : ∃ i0, Tryz.prog.info? 3 = some i0 ∧ i0.zero = some (.int .i64 0) ∧ i0.size = 1 ∧ i0.bytes = 8 := by
  obtain ⟨i0, hi, hz⟩ := Option.map_eq_some_iff.1 (by kernel_rfl : (Tryz.prog.info? 3).map (fun i => (i.zero, i.size, i.bytes)) = some (some (.int .i64 0), 1, 8))
  simp only [Prod.mk.injEq] at hz
  exact ⟨i0, hi, hz.1, hz.2.1, hz.2.2⟩
theorem make_int (w : World) {ops : Array Oper} {rest : List Oper} {o : Oper} {a : Act} {Q : Exit → Act → World → Prop} (hg : o.guard = none) (l c : Operand) (hop : o.op = Op.makeSlice 44 l c)
    (L C : Int) (n : Nat) (hl : a.eval l = .int .i64 L) (hc : a.eval c = .int .i64 C) (hL : L = (n : Int)) (hC : C = (n : Int)) (hn : n ≤ 1000000)
    (hK : ∀ w', OwnR kI w.heap.size w' (.slice (some ⟨w.heap.size, 0, none⟩) n n) (List.replicate n 0) → Below w.heap.size w w' → wpList Tryz.prog ops Q rest (a.put o.dst (.slice (some ⟨w.heap.size, 0, none⟩) n n)) w') :
    wpList Tryz.prog ops Q (o :: rest) a w := by
  obtain ⟨i0, h1, h2, h3, h4⟩ := int_info
  refine wpList_make_full w hg l c 44 hop w.heap.size 3 i0 (.int .i64 0) 1 Tryz.underlying44 h1 h2 h3 .i64 .i64 L C n hl hc hL hC (by rw [h4]; omega) (by unfold maxLen; omega) (Nat.le_refl _) ?_
  intro w' ho hgr
  refine hK w' ?_ ((Below.refl _ w).grown hgr (Nat.le_refl _) (fun k hk => by cases hk))
  show w'.ownsRow _ _ _ _ _ _
  rw [List.length_replicate, ← made_int]; exact ho
theorem vl_rep (n : Nat) : vl (List.replicate n 0) = 0 := by
  induction n with
  | zero => rfl
  | succ n ih => rw [List.replicate_succ, vl, ih]
theorem times_step {B d : List Nat} {i j t cr x ai y s D0 : Nat} (ht : t = i + j) (h : vl d + 10 ^ t * cr = D0 + 10 ^ i * (ai * vl (B.take j))) (hl : t < d.length) (hx : x = d.getD t 0) (hy : y = B.getD j 0) (hs : s = x + ai * y + cr) : vl (d.set t (s % 10)) + 10 ^ (t + 1) * (s / 10) = D0 + 10 ^ i * (ai * vl (B.take (j + 1))) := by
  have e0 := vl_set d t (s % 10) hl
  rw [← hx] at e0
  rw [vl_take_succ', ← hy, Nat.pow_succ]
  have e1 : 10 ^ t * (s % 10) + 10 ^ t * 10 * (s / 10) = 10 ^ t * s := by
    rw [Nat.mul_assoc, ← Nat.mul_add]; congr 1; omega
  have e2 : 10 ^ t * s = 10 ^ t * x + 10 ^ t * (ai * y) + 10 ^ t * cr := by rw [hs, Nat.mul_add, Nat.mul_add]
  have e3 : 10 ^ i * (ai * (vl (B.take j) + 10 ^ j * y)) = 10 ^ i * (ai * vl (B.take j)) + 10 ^ t * (ai * y) := by
    rw [Nat.mul_add, Nat.mul_add, ht, Nat.pow_add]
    congr 1
    simp only [Nat.mul_comm, Nat.mul_left_comm, Nat.mul_assoc]
  rw [e3]
  omega
end Lg
end Go.Proofs.YtmkdmfjdhajiaaaGreatDoor
end S4

section S5
namespace Go.Proofs.YtmkdmfjdhajiaaaGreatDoor
open Go.RowKit Go.Lib
open Go.Sort (grow)
namespace Lg
theorem long_max (w : World) : Calls Tryz.prog 28 #[.int .i64 9223372036854775807] w fun e w' => ∃ a n c, e = .returned (.agg #[.slice a n c]) ∧ Row kI w' (.slice a n c) (dg 9223372036854775807) ∧ n ≤ 1000 ∧ Below w.heap.size w w' := by
  refine (long_any 9223372036854775807 w (Nat.le_refl _)).mono ?_
  rintro e w' ⟨a, n, c, h1, h2, h3⟩
  refine ⟨a, n, c, h1, h2, ?_, h3⟩
  obtain ⟨_, _, e, _⟩ := h2.len
  simp only [Value.slice.injEq] at e
  rw [e.2.1]
  exact Nat.le_trans (dg_len_lt (k := 19) (by decide)) (by decide)
theorem less_no (a a' : Option Addr) (n n' c c' : Nat) (p q : Nat) (w : World) (hv : Row kI w (.slice a n c) (dg p)) (hu : Row kI w (.slice a' n' c') (dg q)) (hn : n ≤ 1000) (h : ¬ p < q) :
    Calls Tryz.prog 48 #[.agg #[.slice a n c], .agg #[.slice a' n' c']] w fun e w' => e = .returned (.bool false) ∧ Below w.heap.size w w' := by
  have q := less_any a a' n n' c c' p q w hv hu hn
  rw [decide_eq_false h] at q; exact q
theorem less_yes (a a' : Option Addr) (n n' c c' : Nat) (p q : Nat) (w : World) (hv : Row kI w (.slice a n c) (dg p)) (hu : Row kI w (.slice a' n' c') (dg q)) (hn : n ≤ 1000) (h : p < q) :
    Calls Tryz.prog 48 #[.agg #[.slice a n c], .agg #[.slice a' n' c']] w fun e w' => e = .returned (.bool true) ∧ Below w.heap.size w w' := by
  have q := less_any a a' n n' c c' p q w hv hu hn
  rw [decide_eq_true h] at q; exact q

set_option maxHeartbeats 8000000 in
set_option maxRecDepth 100000 in
theorem value_yes (a : Option Addr) (n c : Nat) (p : Nat) (w : World) (hv : Row kI w (.slice a n c) (dg p)) (hn : n ≤ 1000) (hp : p ≤ 9223372036854775807) :
    Calls Tryz.prog 29 #[.agg #[.slice a n c]] w fun e w' => e = .returned (.tuple #[.int .i64 (p : Int), .bool true]) ∧ Below w.heap.size w w' := by
  have V := Lib.hid hv
  have HP := Lib.hid hp
  have HN : Hid (n = (dg p).length) := Lib.hid (by obtain ⟨_, _, e, _⟩ := hv.len; simp only [Value.slice.injEq] at e; exact e.2.1)
  obtain ⟨A, hA⟩ : ∃ A, A = dg p := ⟨_, rfl⟩
  have DD : Hid (Dgs A ∧ vl A = p ∧ A = dg p) := Lib.hid (by rw [hA]; exact ⟨dgs_dg _, vl_dg _, rfl⟩)
  obtain ⟨W1, hW1⟩ : ∃ W, W = w.alloc (.cells #[.slice a n c] 46) := ⟨_, rfl⟩
  have F1 : Hid (W1.heap.size = w.heap.size + 1 ∧ Below w.heap.size w W1 ∧ W1.heap[w.heap.size]? = some (.cells #[.slice a n c] 46 (0, 0))) := Lib.hid (by
    subst hW1
    exact ⟨by simp, (Below.refl _ w).alloc (Nat.le_refl _) _, heap_alloc_new _ _⟩)
  have EW := Lib.hid hW1
  have LX := Lib.hid long_max
  have LS : Hid (∀ W a6 n6 c6, Below w.heap.size w W → n6 ≤ 1000 → Row kI W (.slice a6 n6 c6) (dg 9223372036854775807) → Calls Tryz.prog 48 #[.agg #[.slice a6 n6 c6], .agg #[.slice a n c]] W fun e w' => e = .returned (.bool false) ∧ Below W.heap.size W w') := Lib.hid fun W a6 n6 c6 hW h6 hr => less_no a6 a n6 n c6 c _ p W hr (V.out.below hW) h6 (by have := HP.out; omega)
  clear hA hv hp hW1
  have q0 : W1.drew.cell? ⟨w.heap.size, 0, none⟩ = some (.slice a n c) := cell1 F1.out.2.2
  go_enter Tryz.func29, Tryz.ntmps29
  go_wp2_with fail
  rw [← EW.out]
  clear EW
  go_region_with (first | (go_at_call 28; refine (LX.out _).mono ?_; rintro e w6 ⟨a6, n6, c6, rfl, hr6, hn6, hb6⟩; have S6 : Hid (Below (w.heap.size + 1) W1 w6 ∧ Row kI w6 (.slice a6 n6 c6) (dg 9223372036854775807) ∧ n6 ≤ 1000) := Lib.hid ⟨(Below.refl (w.heap.size + 1) W1).drew.trans (hb6.mono (by show w.heap.size + 1 ≤ W1.heap.size; rw [F1.out.1]; exact Nat.le_refl _)), hr6, hn6⟩; have p6 : w6.cell? ⟨w.heap.size, 0, none⟩ = some (.slice a n c) := cell1 ((S6.out.1.block _ (Nat.lt_succ_self _)).trans F1.out.2.2); clear hr6 hb6 hn6) | (go_at_call 48; refine (LS.out _ a6 n6 c6 (F1.out.2.1.trans (S6.out.1.mono (Nat.le_succ _))) S6.out.2.2 S6.out.2.1).mono ?_; rintro e w7 ⟨rfl, hb7⟩; have S7 : Hid (Below (w.heap.size + 1) W1 w7) := Lib.hid (S6.out.1.trans (hb7.mono (by have q := S6.out.1.size; rw [F1.out.1] at q; exact q))); clear hb7))
  all_goals
    have p7 : w7.cell? ⟨w.heap.size, 0, none⟩ = some (.slice a n c) := cell1 ((S7.out.block _ (Nat.lt_succ_self _)).trans F1.out.2.2)
    go_wp2_with fail
    go_loopg [4, 5] n (fun g sv si wr => ∃ k : Nat, g = k ∧ k ≤ n ∧ si = .int .i64 ((k : Int) - 1) ∧ sv = .int .i64 ((vl (A.drop k) : Nat) : Int) ∧ wr = w7)
    case atStart => exact ⟨n, rfl, Nat.le_refl _, by first | rfl | (congr 1; unfold wrap64; omega), by rw [List.drop_eq_nil_of_le (by rw [DD.out.2.2, ← HN.out]; exact Nat.le_refl _)]; rfl, rfl⟩
    case round =>
      obtain ⟨k, hg, hk, rfl, rfl, rfl⟩ := hrel
      have R := Lib.hid hg
      clear hg
      rcases Nat.eq_zero_or_pos k with h0 | h0
      · subst h0
        have gz : decide (((0 : Nat) : Int) - 1 ≥ 0) = false := by decide
        have E : Hid (vl (A.drop 0) = p) := Lib.hid (by rw [List.drop_zero]; exact DD.out.2.1)
        rw [E.out]
        go_wp2_with fail
        go_ret2
        exact ⟨rfl, F1.out.2.1.trans (S7.out.mono (Nat.le_succ _))⟩
      · obtain ⟨i, rfl⟩ : ∃ i, k = i + 1 := ⟨k - 1, by omega⟩
        have ei : (((i + 1 : Nat) : Int) - 1) = (i : Int) := by omega
        rw [ei]
        clear ei
        have gi : decide ((i : Int) ≥ 0) = true := decide_eq_true (by omega)
        have hin : (i : Int) < (n : Int) := by omega
        obtain ⟨x, hx⟩ : ∃ x, x = A.getD i 0 := ⟨_, rfl⟩
        obtain ⟨b, off, rfl, c0⟩ := Row.one (V.out.below (F1.out.2.1.trans (S7.out.mono (Nat.le_succ _)))) i (by rw [← HN.out]; omega)
        rw [← DD.out.2.2, ← hx] at c0
        obtain ⟨y, hy⟩ : ∃ y, y = vl (A.drop (i + 1)) := ⟨_, rfl⟩
        obtain ⟨z, hz⟩ : ∃ z, z = vl (A.drop i) := ⟨_, rfl⟩
        have hz1 : z = x + 10 * y := by rw [hz, hx, hy]; exact vl_drop A i (by rw [DD.out.2.2, ← HN.out]; omega)
        have hz2 : z ≤ 9223372036854775807 := by
          have e := vl_split A i (by rw [DD.out.2.2, ← HN.out]; omega)
          rw [DD.out.2.1, ← hz] at e
          have q1 : 1 * z ≤ 10 ^ i * z := Nat.mul_le_mul_right z (Nat.pow_pos (n := i) (show 0 < 10 by decide))
          have := HP.out
          omega
        rw [← hy]
        have e1 : wrap64 ((y : Int) * 10) = (y : Int) * 10 := by unfold wrap64; omega
        have e2 : wrap64 ((y : Int) * 10 + (x : Int)) = (z : Int) := by rw [hz1]; unfold wrap64; omega
        have ZZ := Lib.hid hz
        clear hx hy hz hz1 hz2
        go_wp2_with fail
        go_roundg i
        case measure => have := R.out; omega
        case rel => exact ⟨i, rfl, by omega, by first | rfl | (congr 1; unfold wrap64; omega), by rw [← ZZ.out]; first | rfl | (congr 1; unfold wrap64; omega) | (rw [e2]) | (simp [e1, e2]), rfl⟩

set_option maxHeartbeats 8000000 in
set_option maxRecDepth 100000 in
theorem value_no (a : Option Addr) (n c : Nat) (p : Nat) (w : World) (hv : Row kI w (.slice a n c) (dg p)) (hp : 9223372036854775807 < p) :
    Calls Tryz.prog 29 #[.agg #[.slice a n c]] w fun e w' => e = .returned (.tuple #[.int .i64 0, .bool false]) ∧ Below w.heap.size w w' := by
  have V := Lib.hid hv
  have HP := Lib.hid hp
  have HN : Hid (n = (dg p).length) := Lib.hid (by obtain ⟨_, _, e, _⟩ := hv.len; simp only [Value.slice.injEq] at e; exact e.2.1)
  obtain ⟨A, hA⟩ : ∃ A, A = dg p := ⟨_, rfl⟩
  have DD : Hid (Dgs A ∧ vl A = p ∧ A = dg p) := Lib.hid (by rw [hA]; exact ⟨dgs_dg _, vl_dg _, rfl⟩)
  obtain ⟨W1, hW1⟩ : ∃ W, W = w.alloc (.cells #[.slice a n c] 46) := ⟨_, rfl⟩
  have F1 : Hid (W1.heap.size = w.heap.size + 1 ∧ Below w.heap.size w W1 ∧ W1.heap[w.heap.size]? = some (.cells #[.slice a n c] 46 (0, 0))) := Lib.hid (by
    subst hW1
    exact ⟨by simp, (Below.refl _ w).alloc (Nat.le_refl _) _, heap_alloc_new _ _⟩)
  have EW := Lib.hid hW1
  have LX := Lib.hid long_max
  have LS : Hid (∀ W a6 n6 c6, Below w.heap.size w W → n6 ≤ 1000 → Row kI W (.slice a6 n6 c6) (dg 9223372036854775807) → Calls Tryz.prog 48 #[.agg #[.slice a6 n6 c6], .agg #[.slice a n c]] W fun e w' => e = .returned (.bool true) ∧ Below W.heap.size W w') := Lib.hid fun W a6 n6 c6 hW h6 hr => less_yes a6 a n6 n c6 c _ p W hr (V.out.below hW) h6 (by exact HP.out)
  clear hA hv hp hW1
  have q0 : W1.drew.cell? ⟨w.heap.size, 0, none⟩ = some (.slice a n c) := cell1 F1.out.2.2
  go_enter Tryz.func29, Tryz.ntmps29
  go_wp2_with fail
  rw [← EW.out]
  clear EW
  go_region_with (first | (go_at_call 28; refine (LX.out _).mono ?_; rintro e w6 ⟨a6, n6, c6, rfl, hr6, hn6, hb6⟩; have S6 : Hid (Below (w.heap.size + 1) W1 w6 ∧ Row kI w6 (.slice a6 n6 c6) (dg 9223372036854775807) ∧ n6 ≤ 1000) := Lib.hid ⟨(Below.refl (w.heap.size + 1) W1).drew.trans (hb6.mono (by show w.heap.size + 1 ≤ W1.heap.size; rw [F1.out.1]; exact Nat.le_refl _)), hr6, hn6⟩; have p6 : w6.cell? ⟨w.heap.size, 0, none⟩ = some (.slice a n c) := cell1 ((S6.out.1.block _ (Nat.lt_succ_self _)).trans F1.out.2.2); clear hr6 hb6 hn6) | (go_at_call 48; refine (LS.out _ a6 n6 c6 (F1.out.2.1.trans (S6.out.1.mono (Nat.le_succ _))) S6.out.2.2 S6.out.2.1).mono ?_; rintro e w7 ⟨rfl, hb7⟩; have S7 : Hid (Below (w.heap.size + 1) W1 w7) := Lib.hid (S6.out.1.trans (hb7.mono (by have q := S6.out.1.size; rw [F1.out.1] at q; exact q))); clear hb7))
  all_goals
    have p7 : w7.cell? ⟨w.heap.size, 0, none⟩ = some (.slice a n c) := cell1 ((S7.out.block _ (Nat.lt_succ_self _)).trans F1.out.2.2)
    go_wp2_with fail
    go_ret2
    exact ⟨rfl, F1.out.2.1.trans (S7.out.mono (Nat.le_succ _))⟩

end Lg
end Go.Proofs.YtmkdmfjdhajiaaaGreatDoor
end S5
