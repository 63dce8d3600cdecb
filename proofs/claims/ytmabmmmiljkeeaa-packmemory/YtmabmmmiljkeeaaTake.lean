/-
  THE WALK of take.
-/
import Derived.Test.YtmabmmmiljkeeaaHand
namespace Go.Proofs.Ytmabmmmiljkeeaa
open Go.RowKit

def RS.take (s : RS) (k most : Int) : V × RS :=
  if k = 0 then (⟨k, s.uint.1, 0, ⟨#[]⟩⟩, s.uint.2) else if k = 1 then (⟨k, 0, s.int.1, ⟨#[]⟩⟩, s.int.2)
  else if k = 2 then (⟨k, 0, if s.bool.1 then 1 else 0, ⟨#[]⟩⟩, s.bool.2) else if k = 3 then (⟨k, s.byte.1.toNat, 0, ⟨#[]⟩⟩, s.byte.2)
  else if k = 4 then (⟨k, 0, 0, txt (s.text most).1⟩, (s.text most).2) else if k = 5 then (⟨k, 0, (s.count most).1, ⟨#[]⟩⟩, (s.count most).2) else (⟨k, 0, 0, ⟨#[]⟩⟩, s)

def zeroVal : Obj := .cells #[.int .i64 0, .int .u64 0, .int .i64 0, .string ⟨#[]⟩] 43
def kindVal (k : Int) : Obj := .cells #[.int .i64 k, .int .u64 0, .int .i64 0, .string ⟨#[]⟩] 43
theorem take_mem {w w1 : World} {g : Nat} {s s' : RS} {k : Int} (H : RAt w g s) (h : Read g s' ((w.alloc zeroVal).alloc (kindVal k)) w1) :
    (w1.heap[w.heap.size]? = some (.cells #[.int .i64 0, .int .u64 0, .int .i64 0, .string ⟨#[]⟩] 43 (0, 0)) ∧
    w1.heap[w.heap.size + 1]? = some (.cells #[.int .i64 k, .int .u64 0, .int .i64 0, .string ⟨#[]⟩] 43 (0, 0))) ∧ Read g s' w w1 ∧ w.heap.size + 2 ≤ w1.heap.size := by
  have hlt := H.lt
  have s1 : (w.alloc zeroVal).heap.size = w.heap.size + 1 := by simp
  have s2 : ((w.alloc zeroVal).alloc (kindVal k)).heap.size = w.heap.size + 2 := by simp
  have hsz := h.2.size
  refine ⟨⟨?_, ?_⟩, ⟨h.1, (Below.kept (((Below.refl _ w).alloc (Nat.le_refl _) zeroVal).alloc (by rw [s1]; omega) (kindVal k)) _).trans h.2 (fun _ _ q => q)⟩, by omega⟩
  · rw [h.2.block w.heap.size (by omega) (by omega), Below.heap_alloc _ _ _ (by omega), heap_alloc_new]; rfl
  · rw [h.2.block (w.heap.size + 1) (by omega) (by omega)]
    have e := heap_alloc_new (w.alloc zeroVal) (kindVal k)
    rw [s1] at e
    rw [e]; rfl

theorem kept_more {F : Nat → Prop} {w w1 : World} (h : Kept F w w1) (a : Addr) (u : Value) (ha : F a.block) : Kept F w (w1.setCell a u) := h.trans (kept_set w1 a u ha) (fun _ _ q => q)
theorem take_done {w w1 wf : World} {g : Nat} {s s' : RS} {k : Int} (H : RAt w g s) (hr : Read g s' w w1) (m0 : w1.heap[w.heap.size]? = some (.cells #[.int .i64 0, .int .u64 0, .int .i64 0, .string ⟨#[]⟩] 43 (0, 0)))
    (m1 : w1.heap[w.heap.size + 1]? = some (.cells #[.int .i64 k, .int .u64 0, .int .i64 0, .string ⟨#[]⟩] 43 (0, 0)))
    (hk : Kept (fun b => b = w.heap.size ∨ b = w.heap.size + 1) w1 wf) : Read g s' w wf := by
  have hlt := H.lt
  refine ⟨hr.1.kept hk (by rintro (h | h) <;> omega) ?_, hr.2.trans hk (by rintro x hx (h | h) <;> omega)⟩
  rintro b o c hc (rfl | rfl)
  · rw [cell_of_row w1 _ o _ _ _ m0] at hc
    match o with
    | 0 => simp at hc
    | 1 => simp at hc
    | 2 => simp at hc
    | 3 => simp at hc
    | (o + 4) => simp at hc
  · rw [cell_of_row w1 _ o _ _ _ m1] at hc
    match o with
    | 0 => simp at hc
    | 1 => simp at hc
    | 2 => simp at hc
    | 3 => simp at hc
    | (o + 4) => simp at hc
theorem set4 {w : World} {g : Nat} {a b c d x0 x1 x2 x3 : Value} {t : TypeId} (h : w.heap[g]? = some (.cells #[a, b, c, d] t (0, 0))) :
    ((((w.setCell ⟨g, 0, none⟩ x0).setCell ⟨g, 1, none⟩ x1).setCell ⟨g, 2, none⟩ x2).setCell ⟨g, 3, none⟩ x3).heap[g]? = some (.cells #[x0, x1, x2, x3] t (0, 0)) := by
  have h1 := heap_setCell_same w g 0 _ _ x0 h
  have h2 := heap_setCell_same _ g 1 _ _ x1 h1
  have h3 := heap_setCell_same _ g 2 _ _ x2 h2
  have h4 := heap_setCell_same _ g 3 _ _ x3 h3
  rw [h4]; rfl
theorem set4' {w : World} {g g' i : Nat} {a b c d x0 x1 x2 x3 y : Value} {t : TypeId} (hg : g ≠ g') (h : w.heap[g]? = some (.cells #[a, b, c, d] t (0, 0))) :
    (((((w.setCell ⟨g', i, none⟩ y).setCell ⟨g, 0, none⟩ x0).setCell ⟨g, 1, none⟩ x1).setCell ⟨g, 2, none⟩ x2).setCell ⟨g, 3, none⟩ x3).heap[g]? = some (.cells #[x0, x1, x2, x3] t (0, 0)) :=
  set4 (by rw [heap_setCell_other _ _ _ _ hg]; exact h)
theorem take_results {wf : World} {tmps : Array Value} {g : Nat} {x0 x1 x2 x3 : Value} (ht : tmps.getD 6 undef = .pointer (some ⟨g, 0, none⟩)) (h : wf.heap[g]? = some (.cells #[x0, x1, x2, x3] 43 (0, 0))) :
    (results Try.f19 tmps).run Try.prog wf = .ok (.agg #[x0, x1, x2, x3]) wf := by
  have c0 : wf.cell? ⟨g, 0, none⟩ = some x0 := by rw [cell_of_row wf _ 0 _ _ _ h]; rfl
  have c1 : wf.cell? ⟨g, 1, none⟩ = some x1 := by rw [cell_of_row wf _ 1 _ _ _ h]; rfl
  have c2 : wf.cell? ⟨g, 2, none⟩ = some x2 := by rw [cell_of_row wf _ 2 _ _ _ h]; rfl
  have c3 : wf.cell? ⟨g, 3, none⟩ = some x3 := by rw [cell_of_row wf _ 3 _ _ _ h]; rfl
  have ht' : tmps[6]?.getD undef = .pointer (some ⟨g, 0, none⟩) := by simpa using ht
  simp [results, Try.results19, go_sem, ht', c0, c1, c2, c3]

set_option maxHeartbeats 4000000 in
theorem take_any (g : Nat) (k most : Int) (s : RS) (w : World) (h1 : -9223372036854775808 ≤ most) (h2 : most < 9223372036854775808) (H : RAt w g s) :
    Calls Try.prog 19 #[.pointer (some ⟨g, 0, none⟩), .int .i64 k, .int .i64 most] w fun e w' => e = .returned (s.take k most).1.agg ∧ Read g (s.take k most).2 w w' := by
  have V : Aside (RAt w g s) := H
  clear H
  have hb : Below w.heap.size w ((w.alloc zeroVal).alloc (kindVal k)) := ((Below.refl _ _).alloc (Nat.le_refl _) _).alloc (by simp) _
  have V1 : Aside (RAt ((w.alloc zeroVal).alloc (kindVal k)) g s) := V.out.below hb
  have HB : Aside (Below w.heap.size w ((w.alloc zeroVal).alloc (kindVal k))) := hb
  clear hb
  go_enter Try.func19, Try.ntmps19
  by_cases e0 : k = 0
  · have U : Aside (s.take k most = (⟨k, s.uint.1, 0, ⟨#[]⟩⟩, s.uint.2)) := by unfold RS.take; rw [if_pos e0]; rfl
    subst e0
    go_wp2_with fail
    refine (rUint_any g s _ V1.out).mono ?_
    rintro e w1 ⟨rfl, hr⟩
    obtain ⟨⟨m0, m1⟩, hr2, hsz⟩ := take_mem V.out hr
    have R : Aside (Read g s.uint.2 w w1) := hr2
    clear hr hr2
    have MM : Aside (w1.heap[w.heap.size]? = some (.cells #[.int .i64 0, .int .u64 0, .int .i64 0, .string ⟨#[]⟩] 43 (0, 0)) ∧
      w1.heap[w.heap.size + 1]? = some (.cells #[.int .i64 0, .int .u64 0, .int .i64 0, .string ⟨#[]⟩] 43 (0, 0))) := ⟨m0, m1⟩
    have p0 : w1.cell? ⟨w.heap.size + 1, 0, none⟩ = some (.int .i64 0) := by rw [cell_of_row w1 _ 0 _ _ _ m1]; rfl
    have p1 : w1.cell? ⟨w.heap.size + 1, 1, none⟩ = some (.int .u64 0) := by rw [cell_of_row w1 _ 1 _ _ _ m1]; rfl
    have p2 : w1.cell? ⟨w.heap.size + 1, 2, none⟩ = some (.int .i64 0) := by rw [cell_of_row w1 _ 2 _ _ _ m1]; rfl
    have p3 : w1.cell? ⟨w.heap.size + 1, 3, none⟩ = some (.string ⟨#[]⟩) := by rw [cell_of_row w1 _ 3 _ _ _ m1]; rfl
    have q0 : w1.cell? ⟨w.heap.size, 0, none⟩ = some (.int .i64 0) := by rw [cell_of_row w1 _ 0 _ _ _ m0]; rfl
    have q1 : w1.cell? ⟨w.heap.size, 1, none⟩ = some (.int .u64 0) := by rw [cell_of_row w1 _ 1 _ _ _ m0]; rfl
    have q2 : w1.cell? ⟨w.heap.size, 2, none⟩ = some (.int .i64 0) := by rw [cell_of_row w1 _ 2 _ _ _ m0]; rfl
    have q3 : w1.cell? ⟨w.heap.size, 3, none⟩ = some (.string ⟨#[]⟩) := by rw [cell_of_row w1 _ 3 _ _ _ m0]; rfl
    have fr1 : ∀ j, w1.frozen? ⟨w.heap.size + 1, j, none⟩ = false := fun j => frozen_of_row w1 _ j _ _ m1
    have fr0 : ∀ j, w1.frozen? ⟨w.heap.size, j, none⟩ = false := fun j => frozen_of_row w1 _ j _ _ m0
    clear m0 m1
    go_wp2_with fail
    refine bodyPost_ret (take_results rfl (set4' (by omega) MM.out.1)) rfl ?_
    rw [U.out]
    refine ⟨rfl, take_done V.out R.out MM.out.1 MM.out.2 ?_⟩
    repeat (first | refine kept_more ?_ _ _ (by simp) | exact Kept.refl _ _)
  by_cases e1 : k = 1
  · have U : Aside (s.take k most = (⟨k, 0, s.int.1, ⟨#[]⟩⟩, s.int.2)) := by unfold RS.take; rw [if_neg e0, if_pos e1]; rfl
    subst e1
    clear e0
    go_wp2_with fail
    refine (rInt_any g s _ V1.out).mono ?_
    rintro e w1 ⟨rfl, hr⟩
    obtain ⟨⟨m0, m1⟩, hr2, hsz⟩ := take_mem V.out hr
    have R : Aside (Read g s.int.2 w w1) := hr2
    clear hr hr2
    have MM : Aside (w1.heap[w.heap.size]? = some (.cells #[.int .i64 0, .int .u64 0, .int .i64 0, .string ⟨#[]⟩] 43 (0, 0)) ∧
      w1.heap[w.heap.size + 1]? = some (.cells #[.int .i64 1, .int .u64 0, .int .i64 0, .string ⟨#[]⟩] 43 (0, 0))) := ⟨m0, m1⟩
    have p0 : w1.cell? ⟨w.heap.size + 1, 0, none⟩ = some (.int .i64 1) := by rw [cell_of_row w1 _ 0 _ _ _ m1]; rfl
    have p1 : w1.cell? ⟨w.heap.size + 1, 1, none⟩ = some (.int .u64 0) := by rw [cell_of_row w1 _ 1 _ _ _ m1]; rfl
    have p2 : w1.cell? ⟨w.heap.size + 1, 2, none⟩ = some (.int .i64 0) := by rw [cell_of_row w1 _ 2 _ _ _ m1]; rfl
    have p3 : w1.cell? ⟨w.heap.size + 1, 3, none⟩ = some (.string ⟨#[]⟩) := by rw [cell_of_row w1 _ 3 _ _ _ m1]; rfl
    have q0 : w1.cell? ⟨w.heap.size, 0, none⟩ = some (.int .i64 0) := by rw [cell_of_row w1 _ 0 _ _ _ m0]; rfl
    have q1 : w1.cell? ⟨w.heap.size, 1, none⟩ = some (.int .u64 0) := by rw [cell_of_row w1 _ 1 _ _ _ m0]; rfl
    have q2 : w1.cell? ⟨w.heap.size, 2, none⟩ = some (.int .i64 0) := by rw [cell_of_row w1 _ 2 _ _ _ m0]; rfl
    have q3 : w1.cell? ⟨w.heap.size, 3, none⟩ = some (.string ⟨#[]⟩) := by rw [cell_of_row w1 _ 3 _ _ _ m0]; rfl
    have fr1 : ∀ j, w1.frozen? ⟨w.heap.size + 1, j, none⟩ = false := fun j => frozen_of_row w1 _ j _ _ m1
    have fr0 : ∀ j, w1.frozen? ⟨w.heap.size, j, none⟩ = false := fun j => frozen_of_row w1 _ j _ _ m0
    clear m0 m1
    go_wp2_with fail
    refine bodyPost_ret (take_results rfl (set4' (by omega) MM.out.1)) rfl ?_
    rw [U.out]
    refine ⟨rfl, take_done V.out R.out MM.out.1 MM.out.2 ?_⟩
    repeat (first | refine kept_more ?_ _ _ (by simp) | exact Kept.refl _ _)
  by_cases e2 : k = 2
  · have U : Aside (s.take k most = (⟨k, 0, if s.bool.1 then 1 else 0, ⟨#[]⟩⟩, s.bool.2)) := by unfold RS.take; rw [if_neg e0, if_neg e1, if_pos e2]; rfl
    subst e2
    clear e0 e1
    go_wp2_with fail
    refine (rBool_any g s _ V1.out).mono ?_
    rintro e w1 ⟨rfl, hr⟩
    obtain ⟨⟨m0, m1⟩, hr2, hsz⟩ := take_mem V.out hr
    have R : Aside (Read g s.bool.2 w w1) := hr2
    clear hr hr2
    have MM : Aside (w1.heap[w.heap.size]? = some (.cells #[.int .i64 0, .int .u64 0, .int .i64 0, .string ⟨#[]⟩] 43 (0, 0)) ∧
      w1.heap[w.heap.size + 1]? = some (.cells #[.int .i64 2, .int .u64 0, .int .i64 0, .string ⟨#[]⟩] 43 (0, 0))) := ⟨m0, m1⟩
    have p0 : w1.cell? ⟨w.heap.size + 1, 0, none⟩ = some (.int .i64 2) := by rw [cell_of_row w1 _ 0 _ _ _ m1]; rfl
    have p1 : w1.cell? ⟨w.heap.size + 1, 1, none⟩ = some (.int .u64 0) := by rw [cell_of_row w1 _ 1 _ _ _ m1]; rfl
    have p2 : w1.cell? ⟨w.heap.size + 1, 2, none⟩ = some (.int .i64 0) := by rw [cell_of_row w1 _ 2 _ _ _ m1]; rfl
    have p3 : w1.cell? ⟨w.heap.size + 1, 3, none⟩ = some (.string ⟨#[]⟩) := by rw [cell_of_row w1 _ 3 _ _ _ m1]; rfl
    have q0 : w1.cell? ⟨w.heap.size, 0, none⟩ = some (.int .i64 0) := by rw [cell_of_row w1 _ 0 _ _ _ m0]; rfl
    have q1 : w1.cell? ⟨w.heap.size, 1, none⟩ = some (.int .u64 0) := by rw [cell_of_row w1 _ 1 _ _ _ m0]; rfl
    have q2 : w1.cell? ⟨w.heap.size, 2, none⟩ = some (.int .i64 0) := by rw [cell_of_row w1 _ 2 _ _ _ m0]; rfl
    have q3 : w1.cell? ⟨w.heap.size, 3, none⟩ = some (.string ⟨#[]⟩) := by rw [cell_of_row w1 _ 3 _ _ _ m0]; rfl
    have fr1 : ∀ j, w1.frozen? ⟨w.heap.size + 1, j, none⟩ = false := fun j => frozen_of_row w1 _ j _ _ m1
    have fr0 : ∀ j, w1.frozen? ⟨w.heap.size, j, none⟩ = false := fun j => frozen_of_row w1 _ j _ _ m0
    clear m0 m1
    cases hbb : s.bool.1 with
    | true =>
      go_wp2_with fail
      refine bodyPost_ret (take_results rfl (set4' (by omega) MM.out.1)) rfl ?_
      rw [U.out, hbb]
      refine ⟨rfl, take_done V.out R.out MM.out.1 MM.out.2 ?_⟩
      repeat (first | refine kept_more ?_ _ _ (by simp) | exact Kept.refl _ _)
    | false =>
      go_wp2_with fail
      refine bodyPost_ret (take_results rfl (set4 MM.out.1)) rfl ?_
      rw [U.out, hbb]
      refine ⟨rfl, take_done V.out R.out MM.out.1 MM.out.2 ?_⟩
      repeat (first | refine kept_more ?_ _ _ (by simp) | exact Kept.refl _ _)
  by_cases e3 : k = 3
  · have U : Aside (s.take k most = (⟨k, s.byte.1.toNat, 0, ⟨#[]⟩⟩, s.byte.2)) := by unfold RS.take; rw [if_neg e0, if_neg e1, if_neg e2, if_pos e3]; rfl
    subst e3
    clear e0 e1 e2
    go_wp2_with fail
    refine (rByte_any g s _ V1.out).mono ?_
    rintro e w1 ⟨rfl, hr⟩
    obtain ⟨⟨m0, m1⟩, hr2, hsz⟩ := take_mem V.out hr
    have R : Aside (Read g s.byte.2 w w1) := hr2
    clear hr hr2
    have MM : Aside (w1.heap[w.heap.size]? = some (.cells #[.int .i64 0, .int .u64 0, .int .i64 0, .string ⟨#[]⟩] 43 (0, 0)) ∧
      w1.heap[w.heap.size + 1]? = some (.cells #[.int .i64 3, .int .u64 0, .int .i64 0, .string ⟨#[]⟩] 43 (0, 0))) := ⟨m0, m1⟩
    have p0 : w1.cell? ⟨w.heap.size + 1, 0, none⟩ = some (.int .i64 3) := by rw [cell_of_row w1 _ 0 _ _ _ m1]; rfl
    have p1 : w1.cell? ⟨w.heap.size + 1, 1, none⟩ = some (.int .u64 0) := by rw [cell_of_row w1 _ 1 _ _ _ m1]; rfl
    have p2 : w1.cell? ⟨w.heap.size + 1, 2, none⟩ = some (.int .i64 0) := by rw [cell_of_row w1 _ 2 _ _ _ m1]; rfl
    have p3 : w1.cell? ⟨w.heap.size + 1, 3, none⟩ = some (.string ⟨#[]⟩) := by rw [cell_of_row w1 _ 3 _ _ _ m1]; rfl
    have q0 : w1.cell? ⟨w.heap.size, 0, none⟩ = some (.int .i64 0) := by rw [cell_of_row w1 _ 0 _ _ _ m0]; rfl
    have q1 : w1.cell? ⟨w.heap.size, 1, none⟩ = some (.int .u64 0) := by rw [cell_of_row w1 _ 1 _ _ _ m0]; rfl
    have q2 : w1.cell? ⟨w.heap.size, 2, none⟩ = some (.int .i64 0) := by rw [cell_of_row w1 _ 2 _ _ _ m0]; rfl
    have q3 : w1.cell? ⟨w.heap.size, 3, none⟩ = some (.string ⟨#[]⟩) := by rw [cell_of_row w1 _ 3 _ _ _ m0]; rfl
    have fr1 : ∀ j, w1.frozen? ⟨w.heap.size + 1, j, none⟩ = false := fun j => frozen_of_row w1 _ j _ _ m1
    have fr0 : ∀ j, w1.frozen? ⟨w.heap.size, j, none⟩ = false := fun j => frozen_of_row w1 _ j _ _ m0
    clear m0 m1
    have b0 := c8_lo s.byte.1
    have b1 := c8_hi s.byte.1
    go_wp2_with fail
    refine bodyPost_ret (take_results rfl (set4' (by omega) MM.out.1)) rfl ?_
    rw [U.out]
    refine ⟨rfl, take_done V.out R.out MM.out.1 MM.out.2 ?_⟩
    repeat (first | refine kept_more ?_ _ _ (by simp) | exact Kept.refl _ _)
  by_cases e4 : k = 4
  · have U : Aside (s.take k most = (⟨k, 0, 0, txt (s.text most).1⟩, (s.text most).2)) := by unfold RS.take; rw [if_neg e0, if_neg e1, if_neg e2, if_neg e3, if_pos e4]; rfl
    subst e4
    clear e0 e1 e2 e3
    go_wp2_with fail
    refine (rText_any g most s _ h1 h2 V1.out).mono ?_
    rintro e w1 ⟨rfl, hr⟩
    obtain ⟨⟨m0, m1⟩, hr2, hsz⟩ := take_mem V.out hr
    have R : Aside (Read g (s.text most).2 w w1) := hr2
    clear hr hr2
    have MM : Aside (w1.heap[w.heap.size]? = some (.cells #[.int .i64 0, .int .u64 0, .int .i64 0, .string ⟨#[]⟩] 43 (0, 0)) ∧
      w1.heap[w.heap.size + 1]? = some (.cells #[.int .i64 4, .int .u64 0, .int .i64 0, .string ⟨#[]⟩] 43 (0, 0))) := ⟨m0, m1⟩
    have p0 : w1.cell? ⟨w.heap.size + 1, 0, none⟩ = some (.int .i64 4) := by rw [cell_of_row w1 _ 0 _ _ _ m1]; rfl
    have p1 : w1.cell? ⟨w.heap.size + 1, 1, none⟩ = some (.int .u64 0) := by rw [cell_of_row w1 _ 1 _ _ _ m1]; rfl
    have p2 : w1.cell? ⟨w.heap.size + 1, 2, none⟩ = some (.int .i64 0) := by rw [cell_of_row w1 _ 2 _ _ _ m1]; rfl
    have p3 : w1.cell? ⟨w.heap.size + 1, 3, none⟩ = some (.string ⟨#[]⟩) := by rw [cell_of_row w1 _ 3 _ _ _ m1]; rfl
    have q0 : w1.cell? ⟨w.heap.size, 0, none⟩ = some (.int .i64 0) := by rw [cell_of_row w1 _ 0 _ _ _ m0]; rfl
    have q1 : w1.cell? ⟨w.heap.size, 1, none⟩ = some (.int .u64 0) := by rw [cell_of_row w1 _ 1 _ _ _ m0]; rfl
    have q2 : w1.cell? ⟨w.heap.size, 2, none⟩ = some (.int .i64 0) := by rw [cell_of_row w1 _ 2 _ _ _ m0]; rfl
    have q3 : w1.cell? ⟨w.heap.size, 3, none⟩ = some (.string ⟨#[]⟩) := by rw [cell_of_row w1 _ 3 _ _ _ m0]; rfl
    have fr1 : ∀ j, w1.frozen? ⟨w.heap.size + 1, j, none⟩ = false := fun j => frozen_of_row w1 _ j _ _ m1
    have fr0 : ∀ j, w1.frozen? ⟨w.heap.size, j, none⟩ = false := fun j => frozen_of_row w1 _ j _ _ m0
    clear m0 m1
    go_wp2_with fail
    refine bodyPost_ret (take_results rfl (set4' (by omega) MM.out.1)) rfl ?_
    rw [U.out]
    refine ⟨rfl, take_done V.out R.out MM.out.1 MM.out.2 ?_⟩
    repeat (first | refine kept_more ?_ _ _ (by simp) | exact Kept.refl _ _)
  by_cases e5 : k = 5
  · have U : Aside (s.take k most = (⟨k, 0, (s.count most).1, ⟨#[]⟩⟩, (s.count most).2)) := by unfold RS.take; rw [if_neg e0, if_neg e1, if_neg e2, if_neg e3, if_neg e4, if_pos e5]; rfl
    subst e5
    clear e0 e1 e2 e3 e4
    go_wp2_with fail
    refine (rCount_any g most s _ h1 V1.out).mono ?_
    rintro e w1 ⟨rfl, hr⟩
    obtain ⟨⟨m0, m1⟩, hr2, hsz⟩ := take_mem V.out hr
    have R : Aside (Read g (s.count most).2 w w1) := hr2
    clear hr hr2
    have MM : Aside (w1.heap[w.heap.size]? = some (.cells #[.int .i64 0, .int .u64 0, .int .i64 0, .string ⟨#[]⟩] 43 (0, 0)) ∧
      w1.heap[w.heap.size + 1]? = some (.cells #[.int .i64 5, .int .u64 0, .int .i64 0, .string ⟨#[]⟩] 43 (0, 0))) := ⟨m0, m1⟩
    have p0 : w1.cell? ⟨w.heap.size + 1, 0, none⟩ = some (.int .i64 5) := by rw [cell_of_row w1 _ 0 _ _ _ m1]; rfl
    have p1 : w1.cell? ⟨w.heap.size + 1, 1, none⟩ = some (.int .u64 0) := by rw [cell_of_row w1 _ 1 _ _ _ m1]; rfl
    have p2 : w1.cell? ⟨w.heap.size + 1, 2, none⟩ = some (.int .i64 0) := by rw [cell_of_row w1 _ 2 _ _ _ m1]; rfl
    have p3 : w1.cell? ⟨w.heap.size + 1, 3, none⟩ = some (.string ⟨#[]⟩) := by rw [cell_of_row w1 _ 3 _ _ _ m1]; rfl
    have q0 : w1.cell? ⟨w.heap.size, 0, none⟩ = some (.int .i64 0) := by rw [cell_of_row w1 _ 0 _ _ _ m0]; rfl
    have q1 : w1.cell? ⟨w.heap.size, 1, none⟩ = some (.int .u64 0) := by rw [cell_of_row w1 _ 1 _ _ _ m0]; rfl
    have q2 : w1.cell? ⟨w.heap.size, 2, none⟩ = some (.int .i64 0) := by rw [cell_of_row w1 _ 2 _ _ _ m0]; rfl
    have q3 : w1.cell? ⟨w.heap.size, 3, none⟩ = some (.string ⟨#[]⟩) := by rw [cell_of_row w1 _ 3 _ _ _ m0]; rfl
    have fr1 : ∀ j, w1.frozen? ⟨w.heap.size + 1, j, none⟩ = false := fun j => frozen_of_row w1 _ j _ _ m1
    have fr0 : ∀ j, w1.frozen? ⟨w.heap.size, j, none⟩ = false := fun j => frozen_of_row w1 _ j _ _ m0
    clear m0 m1
    go_wp2_with fail
    refine bodyPost_ret (take_results rfl (set4' (by omega) MM.out.1)) rfl ?_
    rw [U.out]
    refine ⟨rfl, take_done V.out R.out MM.out.1 MM.out.2 ?_⟩
    repeat (first | refine kept_more ?_ _ _ (by simp) | exact Kept.refl _ _)
  · have U : Aside (s.take k most = (⟨k, 0, 0, ⟨#[]⟩⟩, s)) := by unfold RS.take; rw [if_neg e0, if_neg e1, if_neg e2, if_neg e3, if_neg e4, if_neg e5]; rfl
    go_wp2_with fail
    refine bodyPost_ret (v := .agg #[.int .i64 k, .int .u64 0, .int .i64 0, .string ⟨#[]⟩]) (by simp [results, Try.results19, go_sem]) rfl ?_
    rw [U.out]
    refine ⟨rfl, ?_⟩
    have hz : Below w.heap.size w ((w.alloc (kindVal k)).alloc (kindVal k)) := ((Below.refl _ _).alloc (Nat.le_refl _) _).alloc (by simp) _
    exact ⟨V.out.below hz, Below.kept hz _⟩
end Go.Proofs.Ytmabmmmiljkeeaa
