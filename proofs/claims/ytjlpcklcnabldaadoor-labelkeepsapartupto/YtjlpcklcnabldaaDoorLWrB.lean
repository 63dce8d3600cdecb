/-
  write, Print: of every list of terms.
-/
import Derived.Test.YtjlpcklcnabldaaDoorLWrA
namespace Go.Proofs.YtjlpcklcnabldaaDoor.L
open Go.RowKit Go.Sort
/-- The cells of terms, one behind the other. -/
def cellsT (xs : List Trm) : List Value := xs.flatMap Trm.cells
theorem cellsT_len (xs : List Trm) : (cellsT xs).length = xs.length * 3 := by
  induction xs with
  | nil => rfl
  | cons x r ih =>
    show (x.cells ++ cellsT r).length = _
    rw [List.length_append, ih, List.length_cons]
    show 3 + _ = _
    omega
theorem cellsT_at (xs : List Trm) (j i : Nat) (hi : i < 3) (d : Trm) (hj : j < xs.length) : (cellsT xs)[j * 3 + i]? = (xs.getD j d).cells[i]? := by
  induction xs generalizing j with
  | nil => simp at hj
  | cons x r ih =>
    show (x.cells ++ cellsT r)[j * 3 + i]? = _
    cases j with
    | zero =>
      rw [Nat.zero_mul, Nat.zero_add, List.getElem?_append_left (by show i < 3; exact hi)]
      rfl
    | succ j =>
      rw [List.getElem?_append_right (by show 3 ≤ _; omega)]
      have e : (j + 1) * 3 + i - x.cells.length = j * 3 + i := by show _ - 3 = _; omega
      rw [e, ih j (by simpa using hj)]
      rfl
/-- The list as the rows laws want it. -/
theorem trms_at {w : World} {a : Option Addr} {n cap : Nat} {xs : List Trm} (H : Trms w (.slice a n cap) xs) (k : Nat) (hk : k < xs.length) :
    ∃ b off, a = some ⟨b, off, none⟩ ∧ ∃ x ∈ xs, xs.getD k ⟨⟨#[]⟩, 0, .slice none 0 0, []⟩ = x ∧ x.At w ∧ w.cell? ⟨b, off + k * 3, none⟩ = some (.string x.key) ∧ w.cell? ⟨b, off + k * 3 + 1, none⟩ = some (.int .i64 x.how) ∧ w.cell? ⟨b, off + k * 3 + 2, none⟩ = some x.vals := by
  obtain ⟨hat, a', cap', e', _, _, _, hc⟩ := H
  simp only [Value.slice.injEq] at e'
  obtain ⟨rfl, _, rfl⟩ := e'
  obtain ⟨b, off, rfl, hcell⟩ := hc (by intro e; rw [e] at hk; simp at hk)
  have hx : xs.getD k ⟨⟨#[]⟩, 0, .slice none 0 0, []⟩ ∈ xs := by
    rw [List.getD_eq_getElem?_getD, List.getElem?_eq_getElem hk]
    exact List.getElem_mem hk
  exact ⟨b, off, rfl, _, hx, rfl, hat _ hx, hcell k hk 0 _ rfl, hcell k hk 1 _ rfl, hcell k hk 2 _ rfl⟩
theorem Trms.below {w w' : World} {v : Value} {xs : List Trm} (H : Trms w v xs) (hb : Below w.heap.size w w') : Trms w' v xs := by
  obtain ⟨hat, a, cap, e, h1, h2, h3, hc⟩ := H
  refine ⟨fun x hx => (hat x hx).below hb, a, cap, e, h1, h2, h3, fun h0 => ?_⟩
  obtain ⟨b, off, ea, hcell⟩ := hc h0
  exact ⟨b, off, ea, fun j hj i u hu => by rw [hb.cell (p := ⟨b, off + j * 3 + i, none⟩) (block_lt_of_cell (hcell j hj i u hu))]; exact hcell j hj i u hu⟩
set_option maxHeartbeats 4000000 in
set_option maxRecDepth 100000 in
/-- No term: valid. -/
theorem terms_none (a : Option Addr) (cap : Nat) (w : World) : Calls Tryd.prog 22 #[.slice a 0 cap] w fun e w' => e = .returned (.bool true) ∧ Below w.heap.size w w' := by
  have C : Hid (∀ W, Calls Tryd.prog 32 #[.slice a 0 cap, .func (.func 33) #[] #[]] W fun e w' => e = .returned (.bool false) ∧ Below W.heap.size W w') := Lib.hid fun W => by
    have I : Hid (∀ W, Calls Tryd.prog 44 #[.slice a 0 cap, .func (.func 33) #[] #[]] W fun e w' => e = .returned (.int .i64 (-1)) ∧ Below W.heap.size W w') := Lib.hid fun W => by
      go_enter Tryd.func44, Tryd.ntmps44
      go_wp2_with fail
      refine wp_loop_rounds 1 ?_
      rw [rounds_succ]
      go_wp2_with fail
      go_ret
      exact ⟨rfl, Below.refl _ _⟩
    go_enter Tryd.func32, Tryd.ntmps32
    go_wp2_with fail
    refine (I.out W).mono ?_
    rintro e w1 ⟨rfl, hb⟩
    have B1 := Lib.hid hb
    clear hb
    go_wp2_with fail
    go_ret
    exact ⟨rfl, B1.out⟩
  go_enter Tryd.func22, Tryd.ntmps22
  go_wp2_with fail
  refine (C.out w).mono ?_
  rintro e w1 ⟨rfl, hb⟩
  have B1 := Lib.hid hb
  clear hb
  go_wp2_with fail
  go_ret
  exact ⟨rfl, B1.out⟩
theorem terms_every (v : Value) (xs : List Trm) (w : World) (hv : Trms w v xs) :
    Calls Tryd.prog 22 #[v] w fun e w' => e = .returned (.bool (termsB xs)) ∧ Below w.heap.size w w' := by
  by_cases h0 : xs = []
  · subst h0
    obtain ⟨_, a, cap, rfl, _⟩ := hv
    exact terms_none a cap w
  · exact terms_any v xs w hv h0
end Go.Proofs.YtjlpcklcnabldaaDoor.L
