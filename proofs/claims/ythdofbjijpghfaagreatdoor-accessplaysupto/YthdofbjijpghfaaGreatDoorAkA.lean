/-
  The document's ValidBinding, of every binding.
-/
import Derived.Test.YthdofbjijpghfaaGreatDoorAiA
import Derived.Test.YthdofbjijpghfaaGreatDoorMgE
namespace Go.Proofs.YthdofbjijpghfaaGreatDoor
open Go.RowKit
namespace Ac
theorem txr_len {t : ByteArray} {m : Nat} (h : t.size ≤ m) (hm : m ≤ 1048576) : (tx t).length ≤ 10 + m := by
  unfold tx
  rw [List.length_append, str_size]
  have := form_ten t.size (by omega)
  omega
theorem named_sizes {p n : ByteArray} (h : namedB p n = true) : p.size ≤ 64 ∧ n.size ≤ 32 := by
  unfold namedB at h
  simp only [Bool.and_eq_true, decide_eq_true_eq] at h
  refine ⟨?_, ?_⟩
  · have hs := h.1
    have hsome : (L.splitO p).isSome = true := by
      rcases Bool.eq_false_or_eq_true (L.splitO p).isSome with e | e
      · exact e
      · unfold L.splitE at hs; rw [e] at hs; simp at hs
    by_cases q : p.data.toList = [47]
    · have := congrArg List.length q
      rw [str_size] at this
      rw [this]; decide
    · unfold L.splitO at hsome
      rw [if_neg q] at hsome
      split at hsome
      · rename_i y; exact y.2.1
      · simp at hsome
  · have := h.2
    unfold L.nameB at this
    simp only [Bool.and_eq_true, decide_eq_true_eq] at this
    exact this.1.2
theorem bd_facts {b : Bd} (h : bdS b = true) : (b.p.size ≤ 64 ∧ b.n.size ≤ 32 ∧ b.s.size ≤ 32) ∧ 0 ≤ b.v ∧ b.v ≤ 9 := by
  unfold bdS inB at h
  simp only [Bool.and_eq_true, decide_eq_true_eq] at h
  have z := named_sizes h.1
  have y := h.2.1
  unfold L.nameB at y
  simp only [Bool.and_eq_true, decide_eq_true_eq] at y
  exact ⟨⟨z.1, z.2, y.1.2⟩, h.2.2.1, by omega⟩
theorem bd_len {b : Bd} (h : bdS b = true) : (bdE b).flatten.length ≤ 8192 := by
  obtain ⟨⟨h1, h2, h3⟩, _⟩ := bd_facts h
  have t1 := txr_len h1 (by decide)
  have t2 := txr_len h2 (by decide)
  have t3 := txr_len h3 (by decide)
  unfold bdE bdL
  simp only [List.flatten_cons, List.flatten_nil, List.length_append, List.length_cons, List.length_nil]
  omega
set_option maxHeartbeats 1000000 in
theorem refNamed_any (p n : ByteArray) (w : World) (hp : p.size ≤ 1048576) : Calls Tryz.prog 81 #[.string p, .string n] w fun e w' => e = .returned (.bool (namedB p n)) ∧ Below w.heap.size w w' := by
  have PA := Lib.hid (L.refPath_any p w hp)
  have NA := Lib.hid (L.refName_any n)
  clear hp
  go_enter Tryz.func81, Tryz.ntmps81
  go_wp2_with fail
  refine PA.out.mono ?_
  rintro e w1 ⟨rfl, hb⟩
  have B1 := Lib.hid hb
  clear hb PA
  by_cases h : L.splitE p = 0
  · have E : Aside (namedB p n = L.nameB n) := by show _ = _; unfold namedB; rw [decide_eq_true h]; rfl
    have g : (L.splitE p == 0) = true := by rw [beq_iff_eq]; exact h
    clear h
    go_wp2_with fail
    refine (NA.out w1).mono ?_
    rintro e w2 ⟨rfl, rfl⟩
    go_wp2_with fail
    go_ret
    exact ⟨by rw [E.out]; rfl, B1.out⟩
  · have E : Aside (namedB p n = false) := by show _ = _; unfold namedB; rw [decide_eq_false h]; rfl
    have g : (L.splitE p == 0) = false := by rw [beq_eq_false_iff_ne]; exact h
    clear h
    go_wp2_with fail
    go_ret
    exact ⟨by rw [E.out]; rfl, B1.out⟩
set_option maxHeartbeats 4000000 in
set_option maxRecDepth 100000 in
theorem refFormedB_any (b : Bd) (w : World) (hp : b.p.size ≤ 1048576) : Calls Tryz.prog 51 #[b.val] w fun e w' => e = .returned (.bool (bdS b)) ∧ Below w.heap.size w w' := by
  obtain ⟨p, n, s, v⟩ := b
  obtain ⟨S, hS⟩ : ∃ S, S = bdS ⟨p, n, s, v⟩ := ⟨_, rfl⟩
  have ES : Aside (S = (namedB p n && (L.nameB s && inB v 0 3))) := hS
  rw [← hS]
  clear hS
  unfold Bd.val
  simp only at hp ⊢
  obtain ⟨X, hX⟩ : ∃ X, X = w.alloc (.cells #[.string p, .string n, .string s, .int .i64 v] 28) := ⟨_, rfl⟩
  have AX : Hid (Below w.heap.size w X) := Lib.hid (by rw [hX]; exact (Below.refl _ w).alloc (Nat.le_refl _) _)
  have CX : Hid (∀ i y, #[Value.string p, .string n, .string s, .int .i64 v][i]? = some y → X.cell? ⟨w.heap.size, i, none⟩ = some y) := Lib.hid fun i y h => by
    rw [hX, World.cell?_alloc_new]; exact h
  have d0 := CX.out 0 _ rfl
  have d1 := CX.out 1 _ rfl
  have NA := Lib.hid (refNamed_any p n X hp)
  have hX' := hX.symm
  clear hX hp
  go_enter Tryz.func51, Tryz.ntmps51
  go_wp2_with fail
  refine NA.out.mono ?_
  rintro e w1 ⟨rfl, hb⟩
  have B1 := Lib.hid hb
  clear hb NA hX' d0 d1
  have BF : Hid (Below w.heap.size w w1) := Lib.hid (AX.out.trans (B1.out.mono AX.out.size))
  cases h1 : namedB p n with
  | false =>
    have F : Aside (S = false) := by show _ = _; rw [ES.out, h1]; rfl
    go_wp2_with fail
    go_ret
    exact ⟨by rw [F.out]; rfl, BF.out⟩
  | true =>
  have d2 := (B1.out.cell (block_lt_of_cell (CX.out 2 _ rfl))).trans (CX.out 2 _ rfl)
  have d3 := (B1.out.cell (block_lt_of_cell (CX.out 3 _ rfl))).trans (CX.out 3 _ rfl)
  have NB := Lib.hid (L.refName_any s w1)
  go_wp2_with fail
  refine NB.out.mono ?_
  rintro e w2 ⟨rfl, rfl⟩
  clear NB
  cases h2 : L.nameB s with
  | false =>
    have F : Aside (S = false) := by show _ = _; rw [ES.out, h1, h2]; rfl
    go_wp2_with fail
    go_ret
    exact ⟨by rw [F.out]; rfl, BF.out⟩
  | true =>
  by_cases h3 : 0 ≤ v
  · have g : decide (v ≥ 0) = true := decide_eq_true h3
    have F : Aside (S = decide (v ≤ 3)) := by show _ = _; rw [ES.out, h1, h2]; unfold inB; rw [decide_eq_true h3]; rfl
    clear h3
    go_wp2_with fail
    go_ret
    exact ⟨by rw [F.out]; rfl, BF.out⟩
  · have g : decide (v ≥ 0) = false := decide_eq_false h3
    have F : Aside (S = false) := by show _ = _; rw [ES.out, h1, h2]; unfold inB; rw [decide_eq_false h3]; rfl
    clear h3
    go_wp2_with fail
    go_ret
    exact ⟨by rw [F.out]; rfl, BF.out⟩
def jdR (ok : Bool) : Nat := if ok = true then 0 else 130
theorem refJudged_any (ok : Bool) (w : World) : Calls Tryz.prog 52 #[.bool ok, .string ⟨#[]⟩] w fun e w' => e = .returned (.int .i64 (jdR ok)) ∧ w' = w := by
  cases ok with
  | false =>
    go_enter Tryz.func52, Tryz.ntmps52
    go_wp2_with fail
    go_ret
    exact ⟨rfl, rfl⟩
  | true =>
    go_enter Tryz.func52, Tryz.ntmps52
    go_wp2_with fail
    go_ret
    exact ⟨rfl, rfl⟩
set_option maxHeartbeats 4000000 in
set_option maxRecDepth 100000 in
theorem refValidB_any (q : Bd) (w : World) (hp : q.p.size ≤ 1048576) : Calls Tryz.prog 30 #[q.val] w fun e w' => e = .returned (.int .i64 (jdR (bdS q))) ∧ Below w.heap.size w w' := by
  obtain ⟨X, hX⟩ : ∃ X, X = w.alloc (.cells #[.string q.p, .string q.n, .string q.s, .int .i64 q.v] 28) := ⟨_, rfl⟩
  have AX : Hid (Below w.heap.size w X) := Lib.hid (by rw [hX]; exact (Below.refl _ w).alloc (Nat.le_refl _) _)
  have OX : Hid (X.heap[w.heap.size]? = some (.cells #[.string q.p, .string q.n, .string q.s, .int .i64 q.v] 28 (0, 0))) := Lib.hid (by rw [hX, heap_alloc_new])
  have cc : ∀ j y, (#[.string q.p, .string q.n, .string q.s, .int .i64 q.v] : Array Value)[j]? = some y → X.cell? ⟨w.heap.size, j, none⟩ = some y := fun j y hy => by rw [cell_of_row X _ j _ _ _ OX.out]; exact hy
  have d0 := cc 0 _ rfl
  have d1 := cc 1 _ rfl
  have d2 := cc 2 _ rfl
  have d3 := cc 3 _ rfl
  have FA := Lib.hid (refFormedB_any q X hp)
  unfold Bd.val at FA ⊢
  obtain ⟨S, hS⟩ : ∃ S, S = bdS q := ⟨_, rfl⟩
  rw [← hS] at FA ⊢
  have hX' := hX.symm
  clear hX cc hp hS
  go_enter Tryz.func30, Tryz.ntmps30
  go_wp2_with fail
  refine FA.out.mono ?_
  rintro e w1 ⟨rfl, hb⟩
  have BF := Lib.hid (AX.out.trans (hb.mono AX.out.size))
  clear hb FA hX' d0 d1 d2 d3
  go_wp2_with fail
  refine (refJudged_any S w1).mono ?_
  rintro e w2 ⟨rfl, rfl⟩
  go_wp2_with fail
  go_ret
  exact ⟨rfl, BF.out⟩
theorem bd_code (x : Bd) : (bdR x).2 = 0 ↔ bdS x = true := by
  unfold bdR outR
  constructor
  · intro h
    split at h
    · assumption
    · simp at h
  · intro h
    rw [if_pos h]
    have q := bd_len h
    split
    · rfl
    · rename_i q2
      exact absurd q q2
theorem jd_code (x : Bd) : jdR (bdS x) = 0 ↔ bdS x = true := by
  unfold jdR
  cases bdS x <;> simp
end Ac
end Go.Proofs.YthdofbjijpghfaaGreatDoor
