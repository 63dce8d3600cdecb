/-
  invalid, validTerms: of every term, of every list of terms.
-/
import Derived.Test.YtjlpcklcnabldaaDoorLVals
namespace Go.Proofs.YtjlpcklcnabldaaDoor.L
open Go.RowKit
/-- A term: its key, how, its values as they lie, its values. -/
structure Trm where
  key : ByteArray
  how : Int
  vals : Value
  ts : List ByteArray
def Trm.cells (x : Trm) : List Value := [.string x.key, .int .i64 x.how, x.vals]
/-- It lies so in a world. -/
def Trm.At (w : World) (x : Trm) : Prop := Strs w x.vals x.ts ∧ ∀ t ∈ x.ts, t.size ≤ maxLen
theorem Trm.At.below {w w' : World} {x : Trm} (h : x.At w) (hb : Below w.heap.size w w') : x.At w' := ⟨h.1.below hb, h.2⟩
def invalidB (x : Trm) : Bool :=
  !(nameB x.key && (if x.how = 0 ∨ x.how = 1 then valuesB x.ts else if x.how = 2 ∨ x.how = 3 then decide (x.ts.length = 0) else false))
set_option maxHeartbeats 4000000 in
set_option maxRecDepth 100000 in
theorem invalid_any (x : Trm) (w : World) (hx : x.At w) : Calls Tryd.prog 33 #[.agg x.cells.toArray] w fun e w' => e = .returned (.bool (invalidB x)) ∧ Below w.heap.size w w' := by
  obtain ⟨key, how, vals, ts⟩ := x
  have X := Lib.hid hx
  obtain ⟨a, cap, hv, hlc, hcm⟩ := hx.1.len
  simp only at hv
  subst hv
  unfold maxLen at hcm
  clear hx
  unfold Trm.cells
  have N := Lib.hid (name_any key)
  go_enter Tryd.func33, Tryd.ntmps33
  go_wp2_with fail
  refine (N.out _).mono ?_
  rintro e w1 ⟨rfl, hb⟩
  have e1 : w1.cell? ⟨w.heap.size, 1, none⟩ = some (.int .i64 how) := (hb.cell (p := ⟨w.heap.size, 1, none⟩) (by simp)).trans (by rw [World.cell?_alloc_new]; rfl)
  have e2 : w1.cell? ⟨w.heap.size, 2, none⟩ = some (.slice a ts.length cap) := (hb.cell (p := ⟨w.heap.size, 2, none⟩) (by simp)).trans (by rw [World.cell?_alloc_new]; rfl)
  have B1 := Lib.hid (((Below.refl _ w).alloc (Nat.le_refl _) _).trans (hb.mono (by simp)))
  have X1 := Lib.hid (X.out.below B1.out)
  clear hb X N
  cases hn : nameB key with
  | false =>
    have hA : Hid (invalidB ⟨key, how, .slice a ts.length cap, ts⟩ = true) := Lib.hid (by unfold invalidB; simp only [hn]; rfl)
    go_wp2_with fail
    go_ret
    exact ⟨by rw [hA.out]; rfl, B1.out⟩
  | true =>
    by_cases h0 : how = 0
    · subst h0
      have hA : Hid (invalidB ⟨key, 0, .slice a ts.length cap, ts⟩ = !valuesB ts) := Lib.hid (by unfold invalidB; simp [hn])
      have VV := Lib.hid (values_any _ ts w1 X1.out.1 X1.out.2)
      go_wp2_with fail
      refine VV.out.mono ?_
      rintro e w2 ⟨rfl, hb⟩
      have B2 := Lib.hid (B1.out.trans (hb.mono B1.out.size))
      clear hb
      go_wp2_with fail
      go_ret
      exact ⟨by rw [hA.out]; rfl, B2.out⟩
    have q0 : (how == 0) = false := by rw [beq_eq_false_iff_ne]; exact h0
    by_cases h1 : how = 1
    · subst h1
      have hA : Hid (invalidB ⟨key, 1, .slice a ts.length cap, ts⟩ = !valuesB ts) := Lib.hid (by unfold invalidB; simp [hn])
      have VV := Lib.hid (values_any _ ts w1 X1.out.1 X1.out.2)
      clear q0
      go_wp2_with fail
      refine VV.out.mono ?_
      rintro e w2 ⟨rfl, hb⟩
      have B2 := Lib.hid (B1.out.trans (hb.mono B1.out.size))
      clear hb
      go_wp2_with fail
      go_ret
      exact ⟨by rw [hA.out]; rfl, B2.out⟩
    have q1 : (how == 1) = false := by rw [beq_eq_false_iff_ne]; exact h1
    have gl : decide (0 < ts.length) = !decide (ts.length = 0) := by
      by_cases h : ts.length = 0
      · rw [decide_eq_true h, decide_eq_false (by omega)]; rfl
      · rw [decide_eq_false h, decide_eq_true (by omega)]; rfl
    by_cases h2 : how = 2
    · subst h2
      have hA : Hid (invalidB ⟨key, 2, .slice a ts.length cap, ts⟩ = !decide (ts.length = 0)) := Lib.hid (by unfold invalidB; simp [hn])
      have GL := Lib.hid gl
      clear q0 q1 gl
      go_wp2_with fail
      go_ret
      exact ⟨by rw [hA.out, ← GL.out]; rfl, B1.out⟩
    have q2 : (how == 2) = false := by rw [beq_eq_false_iff_ne]; exact h2
    by_cases h3 : how = 3
    · subst h3
      have hA : Hid (invalidB ⟨key, 3, .slice a ts.length cap, ts⟩ = !decide (ts.length = 0)) := Lib.hid (by unfold invalidB; simp [hn])
      have GL := Lib.hid gl
      clear q0 q1 q2 gl
      go_wp2_with fail
      go_ret
      exact ⟨by rw [hA.out, ← GL.out]; rfl, B1.out⟩
    have q3 : (how == 3) = false := by rw [beq_eq_false_iff_ne]; exact h3
    have hA : Hid (invalidB ⟨key, how, .slice a ts.length cap, ts⟩ = true) := Lib.hid (by unfold invalidB; simp [hn, h0, h1, h2, h3])
    clear gl
    go_wp2_with fail
    go_ret
    exact ⟨by rw [hA.out]; rfl, B1.out⟩
/-- A list of terms, as it lies. -/
def Trms (w : World) (v : Value) (xs : List Trm) : Prop :=
  (∀ x ∈ xs, x.At w) ∧ ∃ a cap, v = .slice a xs.length cap ∧ xs.length ≤ cap ∧ cap ≤ maxLen ∧ (a = none → cap = 0) ∧ (xs ≠ [] → ∃ b off, a = some ⟨b, off, none⟩ ∧ ∀ j, j < xs.length → ∀ i u, (xs.getD j ⟨⟨#[]⟩, 0, .slice none 0 0, []⟩).cells[i]? = some u → w.cell? ⟨b, off + j * 3 + i, none⟩ = some u)
theorem trm_size (w : World) : (Go.sizeOf 36).run Tryd.prog w = .ok 3 w := by go_simp
theorem trm_agg (w : World) : (isAgg 36).run Tryd.prog w = .ok true w := by go_simp
def termsB (xs : List Trm) : Bool := decide (xs.length ≤ 8) && !xs.any invalidB
theorem contains_any (v : Value) (xs : List Trm) (w : World) (hv : Trms w v xs) (h8 : xs ≠ []) :
    Calls Tryd.prog 32 #[v, .func (.func 33) #[] #[]] w fun e w' => e = .returned (.bool (xs.any invalidB)) ∧ Below w.heap.size w w' := by
  obtain ⟨hat, a, cap, rfl, hlc, hcm, _, hc⟩ := hv
  obtain ⟨b, off, rfl, hcell⟩ := hc h8
  have hnil : (⟨⟨#[]⟩, 0, .slice none 0 0, []⟩ : Trm).At w := ⟨⟨none, 0, rfl, by simp, by decide, fun _ => rfl, fun k hk => by simp at hk⟩, by simp⟩
  let α := { x : Trm // x.At w }
  have inh : Inhabited α := ⟨⟨_, hnil⟩⟩
  let ys : List α := xs.attach.map fun x => ⟨x.1, hat x.1 x.2⟩
  have hys : ys.map (·.1) = xs := by simp [ys]
  have hlen : ys.length = xs.length := by simp [ys]
  have hp : PredBelow Tryd.prog 33 #[] (fun x : α => .agg x.1.cells.toArray) (fun x => invalidB x.1) w := fun W x hb => (invalid_any x.1 W (x.2.below hb)).mono fun _ _ ⟨he, hb'⟩ => ⟨he, hb.trans (hb'.mono hb.size)⟩
  have := Tryd.slices_ContainsFunc (α := α) 3 trm_agg trm_size (fun x => x.1.cells) (fun x => rfl) (fun x => invalidB x.1) 33 #[] (enters_of Tryd.func33 (by kernel_rfl) rfl) b off xs.length cap ys w hp (by omega) (by unfold maxLen at hcm; omega) ?_ ?_
  · refine this.mono ?_
    rintro e w' ⟨rfl, hb⟩
    refine ⟨?_, hb⟩
    rw [List.take_of_length_le (by omega)]
    have e : ys.any (fun x => invalidB x.1) = xs.any invalidB := by
      have h := congrArg (fun l => l.any invalidB) hys
      simp only [List.any_map] at h
      exact h
    rw [e]
  · have h0 : 0 < xs.length := List.length_pos_iff.2 h8
    exact block_lt_of_cell (hcell 0 h0 0 _ rfl)
  · intro j hj i u hu
    have hj' : j < xs.length := by omega
    refine hcell j hj' i u ?_
    have e : xs.getD j ⟨⟨#[]⟩, 0, .slice none 0 0, []⟩ = (ys[j]!).1 := by
      rw [getElem!_pos ys j hj, List.getD_eq_getElem?_getD, List.getElem?_eq_getElem hj']
      simp [ys]
    rw [e]
    exact hu
set_option maxHeartbeats 1000000 in
theorem terms_any (v : Value) (xs : List Trm) (w : World) (hv : Trms w v xs) (h0 : xs ≠ []) :
    Calls Tryd.prog 22 #[v] w fun e w' => e = .returned (.bool (termsB xs)) ∧ Below w.heap.size w w' := by
  have C := Lib.hid (contains_any v xs w hv h0)
  obtain ⟨_, a, cap, rfl, hlc, hcm, _, _⟩ := hv
  unfold maxLen at hcm
  go_enter Tryd.func22, Tryd.ntmps22
  by_cases h8 : xs.length ≤ 8
  · have g8 : decide ((xs.length : Int) ≤ 8) = true := decide_eq_true (by omega)
    have hA : Hid (termsB xs = !xs.any invalidB) := Lib.hid (by unfold termsB; rw [decide_eq_true h8]; rfl)
    go_wp2_with fail
    refine C.out.mono ?_
    rintro e w1 ⟨rfl, hb⟩
    have B1 := Lib.hid hb
    clear hb
    go_wp2_with fail
    go_ret
    exact ⟨by rw [hA.out]; rfl, B1.out⟩
  · have g8 : decide ((xs.length : Int) ≤ 8) = false := decide_eq_false (by omega)
    have hA : Hid (termsB xs = false) := Lib.hid (by unfold termsB; rw [decide_eq_false h8]; rfl)
    go_wp2_with fail
    go_ret
    exact ⟨by rw [hA.out]; rfl, Below.refl _ _⟩
end Go.Proofs.YtjlpcklcnabldaaDoor.L
