/-
  THE WALK of PackWrites.
-/
import Derived.Test.YtjnjliojkcnddabQuad
namespace Go.Proofs.Ytjnjliojkcnddab
open Go.RowKit

def lm (n : Int) : Nat := min n.toNat 1048576
set_option maxHeartbeats 8000000 in
set_option maxRecDepth 100000 in
theorem packWrites_walk (n1 n2 : Int) (v : Value) (os : List O) (w : World) (_h1 : -9223372036854775808 ≤ n1 ∧ n1 < 9223372036854775808) (_h2 : -9223372036854775808 ≤ n2 ∧ n2 < 9223372036854775808) (hv : Ops w v os) (hx : ∀ x ∈ os, x.fits) :
    Calls Try.prog 5 #[.int .i64 n1, .int .i64 n2, v] w fun e w' => e = .returned (.bool true) ∧ Below w.heap.size w w' := by
  have Vv : Aside (Ops w v os ∧ ∀ x ∈ os, x.fits) := ⟨hv, hx⟩
  obtain ⟨a, cap, rfl, hlc, hcm, _⟩ := hv
  unfold maxLen at hcm
  clear hx
  go_enter Try.func5, Try.ntmps5
  go_wp2_with fail
  refine (fixed_any w).mono ?_
  rintro e w1 ⟨rfl, hb⟩
  have B1 : Aside (Below w.heap.size w w1) := hb
  clear hb
  go_wp2_with fail
  refine (newWriter_any n1 w1).mono ?_
  rintro e w2 ⟨rfl, hw2, _, hb2⟩
  have B2 : Aside (WAt w1.heap.size w2 w1.heap.size (.slice none 0 0) ⟨[], lm n1, 0⟩ ∧ Below w1.heap.size w1 w2) := ⟨hw2, hb2⟩
  clear hw2 hb2
  go_wp2_with fail
  refine (newWriter_any n2 w2).mono ?_
  rintro e w3 ⟨rfl, hw3, _, hb3⟩
  have B3 : Aside (WAt w2.heap.size w3 w2.heap.size (.slice none 0 0) ⟨[], lm n2, 0⟩ ∧ Below w2.heap.size w2 w3) := ⟨hw3, hb3⟩
  clear hw3 hb3
  go_wp2_with fail
  refine (xnewWriter_any n1 w3).mono ?_
  rintro e w4 ⟨rfl, hw4, _, hb4⟩
  have B4 : Aside (XAt w3.heap.size w4 w3.heap.size (.slice none 0 0) ⟨[], lm n1, 0⟩ ∧ Below w3.heap.size w3 w4) := ⟨hw4, hb4⟩
  clear hw4 hb4
  go_wp2_with fail
  refine (xnewWriter_any n2 w4).mono ?_
  rintro e w5 ⟨rfl, hw5, _, hb5⟩
  have B5 : Aside (Quad w1.heap.size w5 w1.heap.size (.slice none 0 0) w2.heap.size (.slice none 0 0) w3.heap.size (.slice none 0 0) w4.heap.size (.slice none 0 0) ⟨[], lm n1, 0⟩ ⟨[], lm n2, 0⟩ ⟨[], lm n1, 0⟩ ⟨[], lm n2, 0⟩ ∧ Below w.heap.size w w5) := by
    have l2 := B2.out.1.lt
    have l3 := B3.out.1.lt
    have l4 := B4.out.1.lt
    have s2 := B2.out.2.size
    have s3 := B3.out.2.size
    have s4 := B4.out.2.size
    have b25 : Below w2.heap.size w2 w5 := B3.out.2.trans ((B4.out.2.trans (hb5.mono B4.out.2.size)).mono B3.out.2.size)
    have b35 : Below w3.heap.size w3 w5 := B4.out.2.trans (hb5.mono B4.out.2.size)
    have nf : ∀ g k, WF g (.slice none 0 0) k → k = g := fun g k h => by
      rcases h with h | h
      · exact h
      · simp [Value.ownBlock] at h
    have dd : ∀ g g', g ≠ g' → Dis g (.slice none 0 0) g' (.slice none 0 0) := fun g g' hne k h h' => hne ((nf g k h).symm.trans (nf g' k h'))
    refine ⟨⟨B2.out.1.below b25, (B3.out.1.below b35).mono s2, (B4.out.1.below hb5).mono (by omega), hw5.mono (by omega), dd _ _ (by omega), dd _ _ (by omega), dd _ _ (by omega), dd _ _ (by omega), dd _ _ (by omega), dd _ _ (by omega)⟩, ?_⟩
    exact (B1.out.trans (B2.out.2.mono B1.out.size)).trans (b25.mono (Nat.le_trans B1.out.size s2))
  clear hw5 hb5
  go_wp2_with fail
  go_loopg [8, 9, 10, 11, 12] os.length (fun g0 pa pb px py si wr => ∃ (k ga gb gx gy : Nat) (va vb vx vy : Value) (sa sb : WS), k ≤ os.length ∧ g0 = os.length - k ∧ si = .int .i64 k ∧ pa = .pointer (some ⟨ga, 0, none⟩) ∧ pb = .pointer (some ⟨gb, 0, none⟩) ∧ px = .pointer (some ⟨gx, 0, none⟩) ∧ py = .pointer (some ⟨gy, 0, none⟩) ∧ Quad w1.heap.size wr ga va gb vb gx vx gy vy sa sb sa sb ∧ Below w.heap.size w wr)
  case atStart => exact ⟨0, _, _, _, _, _, _, _, _, _, _, Nat.zero_le _, rfl, rfl, rfl, rfl, rfl, rfl, B5.out.1, B5.out.2⟩
  case round =>
    obtain ⟨k, ga, gb, gx, gy, va, vb, vx, vy, sa, sb, hk, hg, rfl, rfl, rfl, rfl, rfl, hq, hb⟩ := hrel
    have R : Aside (gk = os.length - k ∧ Quad w1.heap.size wr ga va gb vb gx vx gy vy sa sb sa sb ∧ Below w.heap.size w wr) := ⟨hg, hq, hb⟩
    clear hg hq hb
    by_cases hlt : k < os.length
    · obtain ⟨b, off, rfl, p0, p1, p2, p3, p4, p5, p6⟩ := (Vv.out.1.below R.out.2.2).at k hlt
      obtain ⟨o, ho⟩ : ∃ o, o = os.getD k O.zero := ⟨_, rfl⟩
      rw [← ho] at p0 p1 p2 p3 p4 p5 p6
      have OF : Aside o.fits := Vv.out.2 o (by rw [ho]; simp [List.getD, hlt])
      clear ho
      obtain ⟨tw, nw, li, x⟩ := o
      simp only at p0 p1 p2 p3 p4 p5 p6
      cases nw <;> cases tw
      · go_wp2_with fail
        have bA : Below wr.heap.size wr (wr.alloc (.cells #[.bool false, .bool false, .int .i64 li, .int .i64 x.k, .int .u64 x.u, .int .i64 x.i, .string x.s] 61)) := (Below.refl _ _).alloc (Nat.le_refl _) _
        have QA := R.out.2.1.below bA
        have hA : (wr.alloc (.cells #[.bool false, .bool false, .int .i64 li, .int .i64 x.k, .int .u64 x.u, .int .i64 x.i, .string x.s] 61)).heap[wr.heap.size]? = some (.cells #[.bool false, .bool false, .int .i64 li, .int .i64 x.k, .int .u64 x.u, .int .i64 x.i, .string x.s] 61 (0, 0)) := heap_alloc_new wr _
        have eA : (wr.alloc (.cells #[.bool false, .bool false, .int .i64 li, .int .i64 x.k, .int .u64 x.u, .int .i64 x.i, .string x.s] 61)).heap.size = wr.heap.size + 1 := by simp
        have BA : Below w.heap.size w (wr.alloc (.cells #[.bool false, .bool false, .int .i64 li, .int .i64 x.k, .int .u64 x.u, .int .i64 x.i, .string x.s] 61)) := R.out.2.2.trans (bA.mono R.out.2.2.size)
        refine (lay_any _ _ _ sa x _ OF.out.2.1 QA.a).mono ?_
        rintro e w6 ⟨rfl, hl⟩
        have bl := hl.below QA.a
        have h6 : w6.heap[wr.heap.size]? = _ := (hl.choose_spec.2.1.block wr.heap.size (by rw [eA]; omega) (fun hf => by have := R.out.2.1.a.flt _ hf; omega)).trans hA
        obtain ⟨u6, Q6⟩ := QA.laya hl
        have B6 : Below w.heap.size w w6 := BA.trans (bl.mono (Nat.le_trans B1.out.size (Nat.le_refl _)))
        have K6 : Aside (Quad _ w6 _ _ _ _ _ _ _ _ _ _ _ _ ∧ Below w.heap.size w w6) := ⟨Q6, B6⟩
        have r3 : w6.cell? ⟨wr.heap.size, 3, none⟩ = some (.int .i64 x.k) := by rw [cell_of_row w6 _ 3 _ _ _ h6]; rfl
        have r4 : w6.cell? ⟨wr.heap.size, 4, none⟩ = some (.int .u64 x.u) := by rw [cell_of_row w6 _ 4 _ _ _ h6]; rfl
        have r5 : w6.cell? ⟨wr.heap.size, 5, none⟩ = some (.int .i64 x.i) := by rw [cell_of_row w6 _ 5 _ _ _ h6]; rfl
        have r6 : w6.cell? ⟨wr.heap.size, 6, none⟩ = some (.string x.s) := by rw [cell_of_row w6 _ 6 _ _ _ h6]; rfl
        clear hl bl h6 Q6 B6 QA hA eA BA bA p0 p1 p2 p3 p4 p5 p6
        go_wp2_with fail
        refine (layRef_any _ _ _ sa x w6 OF.out.2.1 OF.out.2.2 K6.out.1.x).mono ?_
        rintro e w7 ⟨rfl, hl⟩
        have bl := hl.below K6.out.1.x
        obtain ⟨u7, Q7⟩ := K6.out.1.layx hl
        have K7 : Aside (Quad _ w7 _ _ _ _ _ _ _ _ _ _ _ _ ∧ Below w.heap.size w w7) := ⟨Q7, K6.out.2.trans (bl.mono (Nat.le_trans B1.out.size (Nat.le_refl _)))⟩
        clear hl bl Q7 r3 r4 r5 r6
        go_wp2_with fail
        refine (tells_any _ _ _ _ _ _ _ w7 K7.out.1.a K7.out.1.x).mono ?_
        rintro e w8 ⟨rfl, hb8⟩
        have K8 : Aside (Quad _ w8 _ _ _ _ _ _ _ _ _ _ _ _ ∧ Below w.heap.size w w8) := ⟨K7.out.1.below hb8, K7.out.2.trans (hb8.mono K7.out.2.size)⟩
        clear hb8
        go_wp2_with fail
        refine (tells_any _ _ _ _ _ _ _ w8 K8.out.1.b K8.out.1.y).mono ?_
        rintro e w9 ⟨rfl, hb9⟩
        have K9 : Aside (Quad _ w9 _ _ _ _ _ _ _ _ _ _ _ _ ∧ Below w.heap.size w w9) := ⟨K8.out.1.below hb9, K8.out.2.trans (hb9.mono K8.out.2.size)⟩
        clear hb9
        go_wp2_with fail
        go_roundg (os.length - (k + 1))
        case measure => have := R.out.1; omega
        case rel => exact ⟨k + 1, _, _, _, _, _, _, _, _, _, _, by omega, rfl, by go_num, rfl, rfl, rfl, rfl, K9.out.1, K9.out.2⟩
      · go_wp2_with fail
        have bA : Below wr.heap.size wr (wr.alloc (.cells #[.bool true, .bool false, .int .i64 li, .int .i64 x.k, .int .u64 x.u, .int .i64 x.i, .string x.s] 61)) := (Below.refl _ _).alloc (Nat.le_refl _) _
        have QA := R.out.2.1.below bA
        have hA : (wr.alloc (.cells #[.bool true, .bool false, .int .i64 li, .int .i64 x.k, .int .u64 x.u, .int .i64 x.i, .string x.s] 61)).heap[wr.heap.size]? = some (.cells #[.bool true, .bool false, .int .i64 li, .int .i64 x.k, .int .u64 x.u, .int .i64 x.i, .string x.s] 61 (0, 0)) := heap_alloc_new wr _
        have eA : (wr.alloc (.cells #[.bool true, .bool false, .int .i64 li, .int .i64 x.k, .int .u64 x.u, .int .i64 x.i, .string x.s] 61)).heap.size = wr.heap.size + 1 := by simp
        have BA : Below w.heap.size w (wr.alloc (.cells #[.bool true, .bool false, .int .i64 li, .int .i64 x.k, .int .u64 x.u, .int .i64 x.i, .string x.s] 61)) := R.out.2.2.trans (bA.mono R.out.2.2.size)
        refine (lay_any _ _ _ sb x _ OF.out.2.1 QA.b).mono ?_
        rintro e w6 ⟨rfl, hl⟩
        have bl := hl.below QA.b
        have h6 : w6.heap[wr.heap.size]? = _ := (hl.choose_spec.2.1.block wr.heap.size (by rw [eA]; omega) (fun hf => by have := R.out.2.1.b.flt _ hf; omega)).trans hA
        obtain ⟨u6, Q6⟩ := QA.layb hl
        have B6 : Below w.heap.size w w6 := BA.trans (bl.mono (Nat.le_trans B1.out.size (Nat.le_refl _)))
        have K6 : Aside (Quad _ w6 _ _ _ _ _ _ _ _ _ _ _ _ ∧ Below w.heap.size w w6) := ⟨Q6, B6⟩
        have r3 : w6.cell? ⟨wr.heap.size, 3, none⟩ = some (.int .i64 x.k) := by rw [cell_of_row w6 _ 3 _ _ _ h6]; rfl
        have r4 : w6.cell? ⟨wr.heap.size, 4, none⟩ = some (.int .u64 x.u) := by rw [cell_of_row w6 _ 4 _ _ _ h6]; rfl
        have r5 : w6.cell? ⟨wr.heap.size, 5, none⟩ = some (.int .i64 x.i) := by rw [cell_of_row w6 _ 5 _ _ _ h6]; rfl
        have r6 : w6.cell? ⟨wr.heap.size, 6, none⟩ = some (.string x.s) := by rw [cell_of_row w6 _ 6 _ _ _ h6]; rfl
        clear hl bl h6 Q6 B6 QA hA eA BA bA p0 p1 p2 p3 p4 p5 p6
        go_wp2_with fail
        refine (layRef_any _ _ _ sb x w6 OF.out.2.1 OF.out.2.2 K6.out.1.y).mono ?_
        rintro e w7 ⟨rfl, hl⟩
        have bl := hl.below K6.out.1.y
        obtain ⟨u7, Q7⟩ := K6.out.1.layy hl
        have K7 : Aside (Quad _ w7 _ _ _ _ _ _ _ _ _ _ _ _ ∧ Below w.heap.size w w7) := ⟨Q7, K6.out.2.trans (bl.mono (Nat.le_trans B1.out.size (Nat.le_refl _)))⟩
        clear hl bl Q7 r3 r4 r5 r6
        go_wp2_with fail
        refine (tells_any _ _ _ _ _ _ _ w7 K7.out.1.a K7.out.1.x).mono ?_
        rintro e w8 ⟨rfl, hb8⟩
        have K8 : Aside (Quad _ w8 _ _ _ _ _ _ _ _ _ _ _ _ ∧ Below w.heap.size w w8) := ⟨K7.out.1.below hb8, K7.out.2.trans (hb8.mono K7.out.2.size)⟩
        clear hb8
        go_wp2_with fail
        refine (tells_any _ _ _ _ _ _ _ w8 K8.out.1.b K8.out.1.y).mono ?_
        rintro e w9 ⟨rfl, hb9⟩
        have K9 : Aside (Quad _ w9 _ _ _ _ _ _ _ _ _ _ _ _ ∧ Below w.heap.size w w9) := ⟨K8.out.1.below hb9, K8.out.2.trans (hb9.mono K8.out.2.size)⟩
        clear hb9
        go_wp2_with fail
        go_roundg (os.length - (k + 1))
        case measure => have := R.out.1; omega
        case rel => exact ⟨k + 1, _, _, _, _, _, _, _, _, _, _, by omega, rfl, by go_num, rfl, rfl, rfl, rfl, K9.out.1, K9.out.2⟩
      · go_wp2_with fail
        have bA : Below wr.heap.size wr (wr.alloc (.cells #[.bool false, .bool true, .int .i64 li, .int .i64 x.k, .int .u64 x.u, .int .i64 x.i, .string x.s] 61)) := (Below.refl _ _).alloc (Nat.le_refl _) _
        have QA := R.out.2.1.below bA
        have hA : (wr.alloc (.cells #[.bool false, .bool true, .int .i64 li, .int .i64 x.k, .int .u64 x.u, .int .i64 x.i, .string x.s] 61)).heap[wr.heap.size]? = some (.cells #[.bool false, .bool true, .int .i64 li, .int .i64 x.k, .int .u64 x.u, .int .i64 x.i, .string x.s] 61 (0, 0)) := heap_alloc_new wr _
        have eA : (wr.alloc (.cells #[.bool false, .bool true, .int .i64 li, .int .i64 x.k, .int .u64 x.u, .int .i64 x.i, .string x.s] 61)).heap.size = wr.heap.size + 1 := by simp
        have BA : Below w.heap.size w (wr.alloc (.cells #[.bool false, .bool true, .int .i64 li, .int .i64 x.k, .int .u64 x.u, .int .i64 x.i, .string x.s] 61)) := R.out.2.2.trans (bA.mono R.out.2.2.size)
        refine (newWriter_any li _).mono ?_
        rintro e w6 ⟨rfl, hw6, _, hb6⟩
        have h6 : w6.heap[wr.heap.size]? = _ := (hb6.block wr.heap.size (by rw [eA]; omega)).trans hA
        have Q6 := QA.newa rfl (hw6.mono QA.le) hb6
        rw [eA] at Q6 ⊢
        have K6 : Aside (Quad _ w6 _ _ _ _ _ _ _ _ _ _ _ _ ∧ Below w.heap.size w w6) := ⟨Q6, BA.trans (hb6.mono BA.size)⟩
        have r2 : w6.cell? ⟨wr.heap.size, 2, none⟩ = some (.int .i64 li) := by rw [cell_of_row w6 _ 2 _ _ _ h6]; rfl
        clear hw6 hb6 h6 Q6 QA hA eA BA bA p0 p1 p2 p3 p4 p5 p6
        go_wp2_with fail
        refine (xnewWriter_any li w6).mono ?_
        rintro e w7 ⟨rfl, hw7, _, hb7⟩
        have Q7 := K6.out.1.newx rfl (hw7.mono K6.out.1.le) hb7
        have K7 : Aside (Quad _ w7 _ _ _ _ _ _ _ _ _ _ _ _ ∧ Below w.heap.size w w7) := ⟨Q7, K6.out.2.trans (hb7.mono K6.out.2.size)⟩
        clear hw7 hb7 Q7 r2
        go_wp2_with fail
        refine (tells_any _ _ _ _ _ _ _ w7 K7.out.1.a K7.out.1.x).mono ?_
        rintro e w8 ⟨rfl, hb8⟩
        have K8 : Aside (Quad _ w8 _ _ _ _ _ _ _ _ _ _ _ _ ∧ Below w.heap.size w w8) := ⟨K7.out.1.below hb8, K7.out.2.trans (hb8.mono K7.out.2.size)⟩
        clear hb8
        go_wp2_with fail
        refine (tells_any _ _ _ _ _ _ _ w8 K8.out.1.b K8.out.1.y).mono ?_
        rintro e w9 ⟨rfl, hb9⟩
        have K9 : Aside (Quad _ w9 _ _ _ _ _ _ _ _ _ _ _ _ ∧ Below w.heap.size w w9) := ⟨K8.out.1.below hb9, K8.out.2.trans (hb9.mono K8.out.2.size)⟩
        clear hb9
        go_wp2_with fail
        go_roundg (os.length - (k + 1))
        case measure => have := R.out.1; omega
        case rel => exact ⟨k + 1, _, _, _, _, _, _, _, _, _, _, by omega, rfl, by go_num, rfl, rfl, rfl, rfl, K9.out.1, K9.out.2⟩
      · go_wp2_with fail
        have bA : Below wr.heap.size wr (wr.alloc (.cells #[.bool true, .bool true, .int .i64 li, .int .i64 x.k, .int .u64 x.u, .int .i64 x.i, .string x.s] 61)) := (Below.refl _ _).alloc (Nat.le_refl _) _
        have QA := R.out.2.1.below bA
        have hA : (wr.alloc (.cells #[.bool true, .bool true, .int .i64 li, .int .i64 x.k, .int .u64 x.u, .int .i64 x.i, .string x.s] 61)).heap[wr.heap.size]? = some (.cells #[.bool true, .bool true, .int .i64 li, .int .i64 x.k, .int .u64 x.u, .int .i64 x.i, .string x.s] 61 (0, 0)) := heap_alloc_new wr _
        have eA : (wr.alloc (.cells #[.bool true, .bool true, .int .i64 li, .int .i64 x.k, .int .u64 x.u, .int .i64 x.i, .string x.s] 61)).heap.size = wr.heap.size + 1 := by simp
        have BA : Below w.heap.size w (wr.alloc (.cells #[.bool true, .bool true, .int .i64 li, .int .i64 x.k, .int .u64 x.u, .int .i64 x.i, .string x.s] 61)) := R.out.2.2.trans (bA.mono R.out.2.2.size)
        refine (newWriter_any li _).mono ?_
        rintro e w6 ⟨rfl, hw6, _, hb6⟩
        have h6 : w6.heap[wr.heap.size]? = _ := (hb6.block wr.heap.size (by rw [eA]; omega)).trans hA
        have Q6 := QA.newb rfl (hw6.mono QA.le) hb6
        rw [eA] at Q6 ⊢
        have K6 : Aside (Quad _ w6 _ _ _ _ _ _ _ _ _ _ _ _ ∧ Below w.heap.size w w6) := ⟨Q6, BA.trans (hb6.mono BA.size)⟩
        have r2 : w6.cell? ⟨wr.heap.size, 2, none⟩ = some (.int .i64 li) := by rw [cell_of_row w6 _ 2 _ _ _ h6]; rfl
        clear hw6 hb6 h6 Q6 QA hA eA BA bA p0 p1 p2 p3 p4 p5 p6
        go_wp2_with fail
        refine (xnewWriter_any li w6).mono ?_
        rintro e w7 ⟨rfl, hw7, _, hb7⟩
        have Q7 := K6.out.1.newy rfl (hw7.mono K6.out.1.le) hb7
        have K7 : Aside (Quad _ w7 _ _ _ _ _ _ _ _ _ _ _ _ ∧ Below w.heap.size w w7) := ⟨Q7, K6.out.2.trans (hb7.mono K6.out.2.size)⟩
        clear hw7 hb7 Q7 r2
        go_wp2_with fail
        refine (tells_any _ _ _ _ _ _ _ w7 K7.out.1.a K7.out.1.x).mono ?_
        rintro e w8 ⟨rfl, hb8⟩
        have K8 : Aside (Quad _ w8 _ _ _ _ _ _ _ _ _ _ _ _ ∧ Below w.heap.size w w8) := ⟨K7.out.1.below hb8, K7.out.2.trans (hb8.mono K7.out.2.size)⟩
        clear hb8
        go_wp2_with fail
        refine (tells_any _ _ _ _ _ _ _ w8 K8.out.1.b K8.out.1.y).mono ?_
        rintro e w9 ⟨rfl, hb9⟩
        have K9 : Aside (Quad _ w9 _ _ _ _ _ _ _ _ _ _ _ _ ∧ Below w.heap.size w w9) := ⟨K8.out.1.below hb9, K8.out.2.trans (hb9.mono K8.out.2.size)⟩
        clear hb9
        go_wp2_with fail
        go_roundg (os.length - (k + 1))
        case measure => have := R.out.1; omega
        case rel => exact ⟨k + 1, _, _, _, _, _, _, _, _, _, _, by omega, rfl, by go_num, rfl, rfl, rfl, rfl, K9.out.1, K9.out.2⟩
    · go_wp2_with fail
      go_ret
      exact ⟨rfl, R.out.2.2⟩
end Go.Proofs.Ytjnjliojkcnddab
