/-
  What of a device's memory stays; has, act, Blocks, Down, Counts, Arm.
-/
import Derived.Test.YtbdlebengmbooaaDvA
namespace Go.Proofs.Ytbdlebengmbooaa
open Go.RowKit Go.Maps
theorem row_block {B e k n : Nat} {w : World} {v : Value} {xs : List Value} (h : w.ownsRow B e k v n xs) {g : Nat} (hg : v.ownBlock = some g) : ∃ cur, w.heap[g]? = some (.cells cur e (0, 0)) := by
  obtain ⟨_, ⟨hv, _⟩ | ⟨g', cap, cur, hv, _, hh, _⟩⟩ := h
  · rw [hv] at hg; cases hg
  · rw [hv] at hg
    have e1 : g' = g := by injection hg
    subst e1
    exact ⟨cur, hh⟩
theorem map_block {w : World} {b n : Nat} {D : DataW Unit} (h : w.ownsMap Try.prog 3 (plainElem Try.prog 3) b n D) : ∃ es c, w.heap[b]? = some (.map es c) := by
  obtain ⟨es, c, h, _⟩ := h
  exact ⟨es, c, h⟩
structure Apart (d mb mp : Nat) (cv : Value) : Prop where
  dm : d ≠ mb
  dp : d ≠ mp
  bp : mb ≠ mp
  cd : cv.ownBlock ≠ some d
  cm : cv.ownBlock ≠ some mb
  cp : cv.ownBlock ≠ some mp
theorem Dv.apart {B : Nat} {w : World} {d mb mp : Nat} {cv : Value} {s : DS} (h : Dv B w d mb mp cv s) : Apart d mb mp cv := by
  obtain ⟨M, hM, _⟩ := h.latest
  obtain ⟨es, c, hm⟩ := map_block hM
  have h1 := h.self
  have h2 := h.med
  refine ⟨?_, ?_, ?_, ?_, ?_, ?_⟩
  · intro e
    subst e
    rw [h2] at h1
    simp at h1
  · intro e
    subst e
    rw [hm] at h1
    simp at h1
  · intro e
    subst e
    rw [hm] at h2
    simp at h2
  · intro e
    obtain ⟨cur, hc⟩ := row_block h.cache e
    rw [hc] at h1
    simp at h1
  · intro e
    obtain ⟨cur, hc⟩ := row_block h.cache e
    rw [hc] at h2
    simp at h2
  · intro e
    obtain ⟨cur, hc⟩ := row_block h.cache e
    rw [hc] at hm
    simp at hm
theorem lt_of_heap {w : World} {k : Nat} {o : Obj} (h : w.heap[k]? = some o) : k < w.heap.size := (Array.getElem?_eq_some_iff.1 h).1
theorem row_kept {F : Nat → Prop} {B e k n : Nat} {w w' : World} {v : Value} {xs : List Value} (H : w.ownsRow B e k v n xs) (hk : Kept F w w') (hF : ∀ g, v.ownBlock = some g → ¬ F g) : w'.ownsRow B e k v n xs := by
  obtain ⟨h1, h | ⟨g, cap, cur, hv, hB, hg, hr⟩⟩ := H
  · exact ⟨h1, .inl h⟩
  · subst hv
    exact ⟨h1, .inr ⟨g, cap, cur, rfl, hB, by rw [hk.block g (lt_of_heap hg) (hF g rfl)]; exact hg, hr⟩⟩
theorem map_kept {F : Nat → Prop} {w w' : World} {b n : Nat} {D : DataW Unit} (H : w.ownsMap Try.prog 3 (plainElem Try.prog 3) b n D) (hk : Kept F w w') (hF : ¬ F b) : w'.ownsMap Try.prog 3 (plainElem Try.prog 3) b n D := by
  obtain ⟨es, c, hb, hr⟩ := H
  exact ⟨es, c, by rw [hk.block b (lt_of_heap hb) hF]; exact hb, hr⟩
/-- What touches no block of the device leaves it as it is. -/
theorem Dv.kept {F : Nat → Prop} {B : Nat} {w w' : World} {d mb mp : Nat} {cv : Value} {s : DS} (h : Dv B w d mb mp cv s) (hk : Kept F w w') (hF : ∀ k, Foot d mb mp cv k → ¬ F k) : Dv B w' d mb mp cv s := by
  obtain ⟨M, hM, hl⟩ := h.latest
  exact ⟨by rw [hk.block d (lt_of_heap h.self) (hF d (.inl rfl))]; exact h.self, by rw [hk.block mb (lt_of_heap h.med) (hF mb (.inr (.inl rfl)))]; exact h.med,
    row_kept h.cache hk fun g hg => hF g (.inr (.inr (.inr hg))), ⟨M, map_kept hM hk (hF mp (.inr (.inr (.inl rfl)))), hl⟩, h.fit, h.b1, h.b2, h.b3⟩
theorem Dv.below {B : Nat} {w w' : World} {d mb mp : Nat} {cv : Value} {s : DS} (h : Dv B w d mb mp cv s) (hb : Below w.heap.size w w') : Dv B w' d mb mp cv s :=
  h.kept (Below.kept hb (fun _ => False)) fun _ _ h => h
theorem Dv.foot_lt {B : Nat} {w : World} {d mb mp : Nat} {cv : Value} {s : DS} (h : Dv B w d mb mp cv s) (k : Nat) (hk : Foot d mb mp cv k) : B ≤ k ∧ k < w.heap.size := by
  rcases hk with rfl | rfl | rfl | hc
  · exact ⟨h.b1, lt_of_heap h.self⟩
  · exact ⟨h.b2, lt_of_heap h.med⟩
  · obtain ⟨M, hM, _⟩ := h.latest
    obtain ⟨es, c, hm⟩ := map_block hM
    exact ⟨h.b3, lt_of_heap hm⟩
  · exact World.ownsRow.lt h.cache k hc
/-- A store into one field. -/
theorem Dv.set {B : Nat} {w : World} {d mb mp : Nat} {cv : Value} {s : DS} (h : Dv B w d mb mp cv s) (i : Nat) (v : Value) (s' : DS) (e : (devCells mb mp cv s).setIfInBounds i v = devCells mb mp cv s') (hm : s'.med = s.med) (hc : s'.cache = s.cache) (hw : s'.ws = s.ws) (hn : s'.n = s.n) :
    Dv B (w.setCell ⟨d, i, none⟩ v) d mb mp cv s' := by
  have A := h.apart
  have K : Kept (fun k => k = d) w (w.setCell ⟨d, i, none⟩ v) := kept_set w _ v rfl
  obtain ⟨M, hM, hl⟩ := h.latest
  refine ⟨?_, ?_, ?_, ⟨M, ?_, by rw [hc]; exact hl⟩, ⟨by rw [hn]; exact h.fit.lo, by rw [hn]; exact h.fit.hi, by rw [hm, hn]; exact h.fit.len, by rw [hn, hc]; exact h.fit.ok, by rw [hc, hw]; exact h.fit.ws⟩, h.b1, h.b2, h.b3⟩
  · rw [heap_setCell_same w d i _ _ v h.self, e]
  · rw [K.block mb (lt_of_heap h.med) (Ne.symm A.dm), hm]; exact h.med
  · rw [hc]; exact row_kept h.cache K fun g hg e => A.cd (by rw [hg, e])
  · rw [hw]; exact map_kept hM K (Ne.symm A.dp)
theorem Dv.cell {B : Nat} {w : World} {d mb mp : Nat} {cv : Value} {s : DS} (h : Dv B w d mb mp cv s) (k : Nat) : w.cell? ⟨d, k, none⟩ = (devCells mb mp cv s)[k]? := cell_of_row w d k _ _ _ h.self
theorem Dv.free {B : Nat} {w : World} {d mb mp : Nat} {cv : Value} {s : DS} (h : Dv B w d mb mp cv s) (k : Nat) : w.frozen? ⟨d, k, none⟩ = false := frozen_of_row w d k _ _ h.self
theorem foot_self (d mb mp : Nat) (cv : Value) : Foot d mb mp cv d := .inl rfl
theorem has_any {B : Nat} {w : World} {d mb mp : Nat} {cv : Value} {s : DS} (h : Dv B w d mb mp cv s) (i : Int) : Calls Try.prog 39 #[.pointer (some ⟨d, 0, none⟩), .int .i64 i] w fun e w' => e = .returned (.bool (hasB s i)) ∧ w' = w := by
  have p0 : w.cell? ⟨d, 0, none⟩ = some (.slice (some ⟨mb, 0, none⟩) s.n s.n) := h.cell 0
  clear h
  unfold hasB
  go_enter Try.func39, Try.ntmps39
  by_cases h1 : 0 ≤ i
  · have g1 : decide (i ≥ 0) = true := decide_eq_true h1
    go_wp2_with fail
    go_ret
    exact ⟨by simp [h1], rfl⟩
  · have g1 : decide (i ≥ 0) = false := decide_eq_false h1
    go_wp2_with fail
    go_ret
    exact ⟨by simp, rfl⟩
theorem blocks_any {B : Nat} {w : World} {d mb mp : Nat} {cv : Value} {s : DS} (h : Dv B w d mb mp cv s) : Calls Try.prog 27 #[.pointer (some ⟨d, 0, none⟩)] w fun e w' => e = .returned (.int .i64 s.n) ∧ w' = w := by
  have p0 : w.cell? ⟨d, 0, none⟩ = some (.slice (some ⟨mb, 0, none⟩) s.n s.n) := h.cell 0
  clear h
  go_enter Try.func27, Try.ntmps27
  go_wp2_with fail
  go_ret
  exact ⟨rfl, rfl⟩
theorem counts_any {B : Nat} {w : World} {d mb mp : Nat} {cv : Value} {s : DS} (h : Dv B w d mb mp cv s) : Calls Try.prog 19 #[.pointer (some ⟨d, 0, none⟩)] w fun e w' => e = .returned (.agg #[.int .i64 s.cr, .int .i64 s.cw, .int .i64 s.cf]) ∧ Below w.heap.size w w' := by
  obtain ⟨X, hX⟩ : ∃ X, X = w.alloc (.cells #[.int .i64 0, .int .i64 0, .int .i64 0] 50) := ⟨_, rfl⟩
  have hB : Hid (Below w.heap.size w X) := Lib.hid (by rw [hX]; exact (Below.refl _ _).alloc (Nat.le_refl _) _)
  have hl : ∀ k, X.cell? ⟨d, k, none⟩ = w.cell? ⟨d, k, none⟩ := fun k => hB.out.cell (lt_of_heap h.self)
  have p0 : X.cell? ⟨d, 6, none⟩ = some (.int .i64 s.cr) := (hl 6).trans (h.cell 6)
  have p1 : X.cell? ⟨d, 7, none⟩ = some (.int .i64 s.cw) := (hl 7).trans (h.cell 7)
  have p2 : X.cell? ⟨d, 8, none⟩ = some (.int .i64 s.cf) := (hl 8).trans (h.cell 8)
  have q0 : X.cell? ⟨w.heap.size, 0, none⟩ = some (.int .i64 0) := by rw [hX, World.cell?_alloc_new]; rfl
  have q1 : X.cell? ⟨w.heap.size, 1, none⟩ = some (.int .i64 0) := by rw [hX, World.cell?_alloc_new]; rfl
  have q2 : X.cell? ⟨w.heap.size, 2, none⟩ = some (.int .i64 0) := by rw [hX, World.cell?_alloc_new]; rfl
  have f0 : X.frozen? ⟨w.heap.size, 0, none⟩ = false := by rw [hX]; simp
  have f1 : X.frozen? ⟨w.heap.size, 1, none⟩ = false := by rw [hX]; simp
  have f2 : X.frozen? ⟨w.heap.size, 2, none⟩ = false := by rw [hX]; simp
  have hX' := hX.symm
  have hh : Hid (X.heap[w.heap.size]? = some (.cells #[.int .i64 0, .int .i64 0, .int .i64 0] 50 (0, 0))) := Lib.hid (by rw [hX]; exact heap_alloc_new _ _)
  clear h hX hl
  go_enter Try.func19, Try.ntmps19
  go_wp2_with fail
  clear hX'
  refine bodyPost_ret (v := .agg #[.int .i64 s.cr, .int .i64 s.cw, .int .i64 s.cf]) ?_ rfl ⟨rfl, ?_⟩
  · refine results_cell_row rfl _ _ w.heap.size 50 _ (0, 0) _ rfl (heap_setCell_same _ _ _ _ _ _ (heap_setCell_same _ _ _ _ _ _ (heap_setCell_same _ _ _ _ _ _ hh.out))) Try.underlying50 rfl (by kernel_rfl)
  · exact ((hB.out.setCell (p := ⟨w.heap.size, 0, none⟩) (Nat.le_refl _) _).setCell (p := ⟨w.heap.size, 1, none⟩) (Nat.le_refl _) _).setCell (p := ⟨w.heap.size, 2, none⟩) (Nat.le_refl _) _
theorem act_any {B : Nat} {w : World} {d mb mp : Nat} {cv : Value} {s : DS} (h : Dv B w d mb mp cv s) : Calls Try.prog 49 #[.pointer (some ⟨d, 0, none⟩)] w fun e w' => e = .returned (.int .i64 (actD s).2) ∧ Dv B w' d mb mp cv (actD s).1 ∧ Kept (fun k => k = d) w w' := by
  have H := Lib.hid h
  obtain ⟨n, med, cache, armed, left, down, cr, cw, cf, ws⟩ := s
  have p3 : w.cell? ⟨d, 3, none⟩ = some (.bool armed) := h.cell 3
  have p4 : w.cell? ⟨d, 4, none⟩ = some (.int .i64 left) := h.cell 4
  have p5 : w.cell? ⟨d, 5, none⟩ = some (.bool down) := h.cell 5
  have f4 : w.frozen? ⟨d, 4, none⟩ = false := h.free 4
  have f5 : w.frozen? ⟨d, 5, none⟩ = false := h.free 5
  clear h
  go_enter Try.func49, Try.ntmps49
  cases armed
  · cases down
    · go_wp2_with fail
      go_ret
      exact ⟨rfl, H.out, Kept.refl _ _⟩
    · go_wp2_with fail
      go_ret
      exact ⟨rfl, H.out, Kept.refl _ _⟩
  · by_cases hl : left = 0
    · have g : (left == 0) = true := by rw [beq_iff_eq]; exact hl
      have E : Hid (actD ⟨n, med, cache, true, left, down, cr, cw, cf, ws⟩ = (⟨n, med, cache, true, left, true, cr, cw, cf, ws⟩, 6)) := Lib.hid (by subst hl; rfl)
      clear hl
      go_wp2_with fail
      go_ret
      rw [E.out]
      exact ⟨rfl, H.out.set 5 _ ⟨n, med, cache, true, left, true, cr, cw, cf, ws⟩ rfl rfl rfl rfl rfl, kept_set w _ _ rfl⟩
    · have g : (left == 0) = false := by rw [beq_eq_false_iff_ne]; exact hl
      have hd : decide (left = 0) = false := decide_eq_false hl
      cases down
      · have E : Hid (actD ⟨n, med, cache, true, left, false, cr, cw, cf, ws⟩ = (⟨n, med, cache, true, wrap64 (left - 1), false, cr, cw, cf, ws⟩, 0)) := Lib.hid (by simp [actD, hd])
        clear hl hd
        go_wp2_with fail
        go_ret
        rw [E.out]
        exact ⟨rfl, H.out.set 4 _ ⟨n, med, cache, true, wrap64 (left - 1), false, cr, cw, cf, ws⟩ rfl rfl rfl rfl rfl, kept_set w _ _ rfl⟩
      · have E : Hid (actD ⟨n, med, cache, true, left, true, cr, cw, cf, ws⟩ = (⟨n, med, cache, true, left, true, cr, cw, cf, ws⟩, 6)) := Lib.hid (by simp [actD, hd])
        clear hl hd
        go_wp2_with fail
        go_ret
        rw [E.out]
        exact ⟨rfl, H.out, Kept.refl _ _⟩
theorem arm_any {B : Nat} {w : World} {d mb mp : Nat} {cv : Value} {s : DS} (h : Dv B w d mb mp cv s) (k : Int) : Calls Try.prog 9 #[.pointer (some ⟨d, 0, none⟩), .int .i64 k] w fun e w' => e = .returned (.int .i64 (armD s k).2) ∧ Dv B w' d mb mp cv (armD s k).1 ∧ Kept (fun k => k = d) w w' := by
  have H := Lib.hid h
  obtain ⟨n, med, cache, armed, left, down, cr, cw, cf, ws⟩ := s
  have p3 : w.cell? ⟨d, 3, none⟩ = some (.bool armed) := h.cell 3
  have p4 : w.cell? ⟨d, 4, none⟩ = some (.int .i64 left) := h.cell 4
  have p5 : w.cell? ⟨d, 5, none⟩ = some (.bool down) := h.cell 5
  have f4 : w.frozen? ⟨d, 4, none⟩ = false := h.free 4
  have f3 : w.frozen? ⟨d, 3, none⟩ = false := h.free 3
  clear h
  go_enter Try.func9, Try.ntmps9
  by_cases hk : k < 0
  · have E : Hid (armD ⟨n, med, cache, armed, left, down, cr, cw, cf, ws⟩ k = (⟨n, med, cache, armed, left, down, cr, cw, cf, ws⟩, 1)) := Lib.hid (by simp [armD, hk])
    go_wp2_with fail
    go_ret
    rw [E.out]
    exact ⟨rfl, H.out, Kept.refl _ _⟩
  · cases down
    · have E : Hid (armD ⟨n, med, cache, armed, left, false, cr, cw, cf, ws⟩ k = (⟨n, med, cache, true, k, false, cr, cw, cf, ws⟩, 0)) := Lib.hid (by simp [armD, hk])
      go_wp2_with fail
      go_ret
      rw [E.out]
      exact ⟨rfl, (H.out.set 3 _ ⟨n, med, cache, true, left, false, cr, cw, cf, ws⟩ rfl rfl rfl rfl rfl).set 4 _ ⟨n, med, cache, true, k, false, cr, cw, cf, ws⟩ rfl rfl rfl rfl rfl, Kept.trans (F := fun k => k = d) (G := fun k => k = d) (kept_set w ⟨d, 3, none⟩ _ rfl) (kept_set _ ⟨d, 4, none⟩ _ rfl) (fun _ _ h => h)⟩
    · have E : Hid (armD ⟨n, med, cache, armed, left, true, cr, cw, cf, ws⟩ k = (⟨n, med, cache, armed, left, true, cr, cw, cf, ws⟩, 6)) := Lib.hid (by simp [armD, hk])
      go_wp2_with fail
      go_ret
      rw [E.out]
      exact ⟨rfl, H.out, Kept.refl _ _⟩
end Go.Proofs.Ytbdlebengmbooaa
