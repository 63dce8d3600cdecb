/-
  write, Print: of every list of terms.
-/
import Derived.Test.YthbbdhhkamccbaaDoorWrA
namespace Go.Proofs.YthbbdhhkamccbaaDoor
open Go.RowKit Go.Sort
set_option maxHeartbeats 4000000 in
set_option maxRecDepth 100000 in
theorem write_any (x : Trm) (w : World) (hx : x.At w) (hv : invalidB x = false) :
    Calls Tryd.prog 31 #[.agg x.cells.toArray] w fun e w' => e = .returned (.string (bys (wr3 (t3 x)))) ∧ Below w.heap.size w w' := by
  have hp := valid_parts hv
  have kz := (nm_size hp.1).2
  have VV : Hid (∀ (one more : ByteArray) W, x.At W → (x.how = 0 ∨ x.how = 1) → one.size ≤ 8 → more.size ≤ 8 → Calls Tryd.prog 52 #[.agg x.cells.toArray, .string one, .string more] W fun e w' => e = .returned (.string (bys (wv3 (t3 x) one.data.toList more.data.toList))) ∧ Below W.heap.size W w') := Lib.hid fun one more W h hh ho hm => by
    rcases hp.2 with ⟨_, hvs⟩ | ⟨h2, _⟩
    · have := values_clean hvs
      exact writeValues_any x one more W h kz (fun t ht => (this.2.2 t ht).2) this.1 this.2.1 ho hm
    · exfalso; omega
  have HW : Hid ((x.how = 0 ∨ x.how = 1) ∨ x.how = 2 ∨ x.how = 3) := Lib.hid (by
    rcases hp.2 with ⟨h, _⟩ | ⟨h, _⟩
    · exact .inl h
    · exact .inr h)
  obtain ⟨key, how, vals, ts⟩ := x
  have X := Lib.hid hx
  simp only at kz
  clear hx hp hv
  unfold Trm.cells at *
  have B1 := Lib.hid ((Below.refl _ w).alloc (Nat.le_refl _) (.cells #[.string key, .int .i64 how, vals] 41))
  rcases HW.out with (h0 | h1) | h2 | h3
  · simp only at h0
    subst h0
    have V1 := Lib.hid (VV.out ⟨#[61]⟩ ⟨#[32, 105, 110, 32, 40]⟩ (w.alloc (.cells #[.string key, .int .i64 0, vals] 41)) (X.out.below B1.out) (.inl rfl) (by decide) (by decide))
    clear VV HW
    have hr : Hid (wr3 (t3 ⟨key, 0, vals, ts⟩) = wv3 (t3 ⟨key, 0, vals, ts⟩) [61] WI) := Lib.hid rfl
    go_enter Tryd.func31, Tryd.ntmps31
    go_wp2_with fail
    refine V1.out.mono ?_
    rintro e w1 ⟨rfl, hb⟩
    have B2 := Lib.hid (B1.out.trans (hb.mono B1.out.size))
    clear hb
    go_wp2_with fail
    go_ret
    exact ⟨by rw [hr.out]; rfl, B2.out⟩
  · simp only at h1
    subst h1
    have V1 := Lib.hid (VV.out ⟨#[33, 61]⟩ ⟨#[32, 110, 111, 116, 105, 110, 32, 40]⟩ (w.alloc (.cells #[.string key, .int .i64 1, vals] 41)) (X.out.below B1.out) (.inr rfl) (by decide) (by decide))
    clear VV HW
    have hr : Hid (wr3 (t3 ⟨key, 1, vals, ts⟩) = wv3 (t3 ⟨key, 1, vals, ts⟩) [33, 61] WO) := Lib.hid rfl
    go_enter Tryd.func31, Tryd.ntmps31
    go_wp2_with fail
    refine V1.out.mono ?_
    rintro e w1 ⟨rfl, hb⟩
    have B2 := Lib.hid (B1.out.trans (hb.mono B1.out.size))
    clear hb
    go_wp2_with fail
    go_ret
    exact ⟨by rw [hr.out]; rfl, B2.out⟩
  · simp only at h2
    subst h2
    have hr : Hid (bys (wr3 (t3 ⟨key, 2, vals, ts⟩)) = key) := Lib.hid (bys_data key)
    go_enter Tryd.func31, Tryd.ntmps31
    go_wp2_with fail
    go_ret
    exact ⟨by rw [hr.out]; rfl, B1.out⟩
  · simp only at h3
    subst h3
    have hr : Hid (bys (wr3 (t3 ⟨key, 3, vals, ts⟩)) = ⟨#[33]⟩ ++ key) := Lib.hid (by rw [app_bys]; rfl)
    have s1 : 1 + key.size ≤ 9223372036854775807 := by omega
    go_enter Tryd.func31, Tryd.ntmps31
    go_wp2_with fail
    go_ret
    exact ⟨by rw [hr.out]; rfl, B1.out⟩
/-- The cells of terms, one behind the other. -/
def cellsT (xs : List Trm) : List Value := xs.flatMap Trm.cells
theorem cellsT_len (xs : List Trm) : (cellsT xs).length = xs.length * 3 := by
  induction xs with
  | nil => rfl
  | cons x r ih =>
    show (x.cells ++ cellsT r).length = _
    rw [List.length_append, ih, List.length_cons]
    show 3 + _ = _
    omega
theorem cellsT_at (xs : List Trm) (j i : Nat) (hi : i < 3) (d : Trm) (hj : j < xs.length) : (cellsT xs)[j * 3 + i]? = (xs.getD j d).cells[i]? := by
  induction xs generalizing j with
  | nil => simp at hj
  | cons x r ih =>
    show (x.cells ++ cellsT r)[j * 3 + i]? = _
    cases j with
    | zero =>
      rw [Nat.zero_mul, Nat.zero_add, List.getElem?_append_left (by show i < 3; exact hi)]
      rfl
    | succ j =>
      rw [List.getElem?_append_right (by show 3 ≤ _; omega)]
      have e : (j + 1) * 3 + i - x.cells.length = j * 3 + i := by show _ - 3 = _; omega
      rw [e, ih j (by simpa using hj)]
      rfl
/-- The list as the rows laws want it. -/
theorem trms_at {w : World} {a : Option Addr} {n cap : Nat} {xs : List Trm} (H : Trms w (.slice a n cap) xs) (k : Nat) (hk : k < xs.length) :
    ∃ b off, a = some ⟨b, off, none⟩ ∧ ∃ x ∈ xs, xs.getD k ⟨⟨#[]⟩, 0, .slice none 0 0, []⟩ = x ∧ x.At w ∧ w.cell? ⟨b, off + k * 3, none⟩ = some (.string x.key) ∧ w.cell? ⟨b, off + k * 3 + 1, none⟩ = some (.int .i64 x.how) ∧ w.cell? ⟨b, off + k * 3 + 2, none⟩ = some x.vals := by
  obtain ⟨hat, a', cap', e', _, _, _, hc⟩ := H
  simp only [Value.slice.injEq] at e'
  obtain ⟨rfl, _, rfl⟩ := e'
  obtain ⟨b, off, rfl, hcell⟩ := hc (by intro e; rw [e] at hk; simp at hk)
  have hx : xs.getD k ⟨⟨#[]⟩, 0, .slice none 0 0, []⟩ ∈ xs := by
    rw [List.getD_eq_getElem?_getD, List.getElem?_eq_getElem hk]
    exact List.getElem_mem hk
  exact ⟨b, off, rfl, _, hx, rfl, hat _ hx, hcell k hk 0 _ rfl, hcell k hk 1 _ rfl, hcell k hk 2 _ rfl⟩
theorem Trms.below {w w' : World} {v : Value} {xs : List Trm} (H : Trms w v xs) (hb : Below w.heap.size w w') : Trms w' v xs := by
  obtain ⟨hat, a, cap, e, h1, h2, h3, hc⟩ := H
  refine ⟨fun x hx => (hat x hx).below hb, a, cap, e, h1, h2, h3, fun h0 => ?_⟩
  obtain ⟨b, off, ea, hcell⟩ := hc h0
  exact ⟨b, off, ea, fun j hj i u hu => by rw [hb.cell (p := ⟨b, off + j * 3 + i, none⟩) (block_lt_of_cell (hcell j hj i u hu))]; exact hcell j hj i u hu⟩
set_option maxHeartbeats 4000000 in
set_option maxRecDepth 100000 in
/-- No term: valid. -/
theorem terms_none (a : Option Addr) (cap : Nat) (w : World) : Calls Tryd.prog 30 #[.slice a 0 cap] w fun e w' => e = .returned (.bool true) ∧ Below w.heap.size w w' := by
  have C : Hid (∀ W, Calls Tryd.prog 50 #[.slice a 0 cap, .func (.func 51) #[] #[]] W fun e w' => e = .returned (.bool false) ∧ Below W.heap.size W w') := Lib.hid fun W => by
    have I : Hid (∀ W, Calls Tryd.prog 65 #[.slice a 0 cap, .func (.func 51) #[] #[]] W fun e w' => e = .returned (.int .i64 (-1)) ∧ Below W.heap.size W w') := Lib.hid fun W => by
      go_enter Tryd.func65, Tryd.ntmps65
      go_wp2_with fail
      refine wp_loop_rounds 1 ?_
      rw [rounds_succ]
      go_wp2_with fail
      go_ret
      exact ⟨rfl, Below.refl _ _⟩
    go_enter Tryd.func50, Tryd.ntmps50
    go_wp2_with fail
    refine (I.out W).mono ?_
    rintro e w1 ⟨rfl, hb⟩
    have B1 := Lib.hid hb
    clear hb
    go_wp2_with fail
    go_ret
    exact ⟨rfl, B1.out⟩
  go_enter Tryd.func30, Tryd.ntmps30
  go_wp2_with fail
  refine (C.out w).mono ?_
  rintro e w1 ⟨rfl, hb⟩
  have B1 := Lib.hid hb
  clear hb
  go_wp2_with fail
  go_ret
  exact ⟨rfl, B1.out⟩
theorem terms_every (v : Value) (xs : List Trm) (w : World) (hv : Trms w v xs) :
    Calls Tryd.prog 30 #[v] w fun e w' => e = .returned (.bool (termsB xs)) ∧ Below w.heap.size w w' := by
  by_cases h0 : xs = []
  · subst h0
    obtain ⟨_, a, cap, rfl, _⟩ := hv
    exact terms_none a cap w
  · exact terms_any v xs w hv h0
end Go.Proofs.YthbbdhhkamccbaaDoor
