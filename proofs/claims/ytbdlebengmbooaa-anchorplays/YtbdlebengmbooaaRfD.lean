/-
  THE DOCUMENT'S DEVICE: Read, Raw, act, Arm, Counts.
-/
import Derived.Test.YtbdlebengmbooaaRfC
namespace Go.Proofs.Ytbdlebengmbooaa
open Go.RowKit Go.Maps
namespace Rf
variable {B B' n : Nat} {w w' w1 : World} {x : Nat} {bv lv kv : Value} {s s' : RD}
def rdR (s : RD) (b : Nat) : List UInt8 := playedL (rawR s b) s.cache b
def rawQ (s : RD) (i : Int) : List UInt8 × Int := if hasR s i = false then ([], 60) else (rawR s i.toNat, 0)
def rrd (s : RD) (i : Int) : RD × List UInt8 × Int := if hasR s i = false then (s, [], 60) else if s.off = true then (s, [], 6) else ({ s with cr := up s.cr }, rdR s i.toNat, 0)
theorem hasR_nat {i : Int} (h : hasR s i = true) : ∃ k : Nat, i = (k : Int) ∧ k < s.n := by
  unfold hasR at h
  simp only [Bool.and_eq_true, decide_eq_true_eq] at h
  exact ⟨i.toNat, by omega, by omega⟩
theorem rawR_length (h : Rd B w x bv lv kv s) (b : Nat) (hb : b < s.n) : (rawR s b).length = 512 :=
  played_length _ _ _ (R0_length h.bl b hb) (fun y hy => (h.ll y hy).a)
set_option maxHeartbeats 4000000 in
theorem rread_any (h : Rd B w x bv lv kv s) (i : Int) : Calls Try.prog 44 #[.pointer (some ⟨x, 0, none⟩), .int .i64 i] w fun e w' => ∃ v, e = .returned (.tuple #[v, .int .i64 (rrd s i).2.2]) ∧ Own w.heap.size w' v (rrd s i).2.1 ∧ Rd B w' x bv lv kv (rrd s i).1 ∧ Kept (fun k => k = x) w w' := by
  have H := Lib.hid h
  have hh := Lib.hid (there_any H.out i)
  have p6 : w.cell? ⟨x, 6, none⟩ = some (.bool s.off) := h.cell 6
  have p7 : w.cell? ⟨x, 7, none⟩ = some (.int .i64 s.cr) := h.cell 7
  have f7 : w.frozen? ⟨x, 7, none⟩ = false := h.free 7
  clear h
  cases hb : hasR s i with
  | false =>
    have E : Hid (rrd s i = (s, [], 60)) := Lib.hid (by simp [rrd, hb])
    rw [hb] at hh
    go_enter Try.func44, Try.ntmps44
    go_wp2_with fail
    refine hh.out.mono ?_
    rintro e w1 ⟨rfl, rfl⟩
    go_wp2_with fail
    go_ret2
    rw [E.out]
    exact ⟨_, rfl, World.ownsRow_nil _ _ _ _, H.out, Kept.refl _ _⟩
  | true =>
    cases hd : s.off with
    | true =>
      have E : Hid (rrd s i = (s, [], 6)) := Lib.hid (by simp [rrd, hb, hd])
      rw [hb] at hh
      rw [hd] at p6
      go_enter Try.func44, Try.ntmps44
      go_wp2_with fail
      refine hh.out.mono ?_
      rintro e w1 ⟨rfl, rfl⟩
      go_wp2_with fail
      go_ret2
      rw [E.out]
      exact ⟨_, rfl, World.ownsRow_nil _ _ _ _, H.out, Kept.refl _ _⟩
    | false =>
      obtain ⟨k, rfl, hk⟩ := hasR_nat hb
      have E : Hid (rrd s k = ({ s with cr := up s.cr }, rdR s k, 0)) := Lib.hid (by simp [rrd, hb, hd])
      rw [hb] at hh
      rw [hd] at p6
      obtain ⟨X, hX⟩ : ∃ X, X = w.setCell ⟨x, 7, none⟩ (.int .i64 (up s.cr)) := ⟨_, rfl⟩
      have H1 : Hid (Rd B X x bv lv kv { s with cr := up s.cr }) := Lib.hid (by rw [hX]; exact H.out.set 7 _ _ rfl rfl rfl rfl rfl)
      have K1 : Hid (Kept (fun k => k = x) w X) := Lib.hid (by rw [hX]; exact kept_set w _ _ rfl)
      have S1 : X.heap.size = w.heap.size := by rw [hX]; simp [World.setCell]
      have hX' := hX.symm
      unfold up at hX'
      have MD : Hid (∀ W, Below X.heap.size X W → Calls Try.prog 62 #[.pointer (some ⟨x, 0, none⟩), .int .i64 (k : Int)] W fun e w' => ∃ g, e = .returned (.slice (some ⟨g, 0, none⟩) 512 512) ∧ X.heap.size ≤ g ∧ Own X.heap.size w' (.slice (some ⟨g, 0, none⟩) 512 512) (rawR s k) ∧ Below X.heap.size X w') := Lib.hid (fun W hW => by
        refine (rmedium_any (H1.out.below hW) k hk).mono ?_
        rintro e w' ⟨rfl, ho, hb'⟩
        exact ⟨_, rfl, hW.size, ho.mono hW.size, hW.trans (hb'.mono hW.size)⟩)
      have PL : Hid (∀ w1 g, Below X.heap.size X w1 → X.heap.size ≤ g → Own X.heap.size w1 (.slice (some ⟨g, 0, none⟩) 512 512) (rawR s k) → Calls Try.prog 61 #[.slice (some ⟨g, 0, none⟩) 512 512, kv, .int .i64 (k : Int)] w1 fun e w' => e = .returned (.slice (some ⟨g, 0, none⟩) 512 512) ∧ Own X.heap.size w' (.slice (some ⟨g, 0, none⟩) 512 512) (rdR s k) ∧ Below X.heap.size X w') := Lib.hid (fun w1 g h1 hg ho => by
        have h1' := H1.out.below h1
        refine (played_any g 512 (rawR s k) kv s.cache k w1 ho (rawR_length H1.out k hk) h1'.cache h1'.lc (fun y hy e => ?_)).mono ?_
        · have := ((H1.out.lc y hy).own.lt g e).2
          omega
        · rintro e w' ⟨rfl, ho', hk'⟩
          exact ⟨rfl, ho', h1.trans (hk'.below h1.size (fun y e => by rw [e]; exact hg))⟩)
      have q3 : X.cell? ⟨x, 3, none⟩ = some kv := H1.out.cell 3
      have C3 : Hid (∀ W, Below X.heap.size X W → W.cell? ⟨x, 3, none⟩ = some kv) := Lib.hid (fun W hW => (H1.out.below hW).cell 3)
      clear hX
      go_enter Try.func44, Try.ntmps44
      go_wp2_with fail
      refine hh.out.mono ?_
      rintro e w1 ⟨rfl, rfl⟩
      go_wp2_with fail
      clear hX' p6 p7 f7
      go_region_held3 (fun W : World => W.cell? ⟨x, 3, none⟩ = some kv) (first | assumption | go_keep) (first
        | (go_at_call 62
           refine (MD.out _ (by first | exact Below.refl _ _ | exact (Below.refl _ _).drew)).mono ?_
           rintro e w1 ⟨g, rfl, hg1, ho1, hb1⟩
           have R1 := Lib.hid (And.intro hg1 (And.intro ho1 hb1))
           have y1 := C3.out w1 hb1
           have y2 := C3.out w1.drew (hb1.trans ((Below.refl _ _).drew.mono hb1.size))
           clear hg1 ho1 hb1)
        | (go_at_call 61
           refine (PL.out _ _ R1.out.2.2 R1.out.1 R1.out.2.1).mono ?_
           rintro e w2 ⟨rfl, ho2, hb2⟩
           have R2 := Lib.hid (And.intro ho2 hb2)
           have y3 := C3.out w2 hb2
           clear ho2 hb2))
      all_goals
        go_wp2_with fail
        go_ret2
        rw [E.out]
        refine ⟨_, rfl, ?_, H1.out.below R2.out.2, K1.out.trans (G := fun k => k = x) (Below.kept R2.out.2 _) (fun _ _ h => h)⟩
        rw [← S1]
        exact R2.out.1
def actR (s : RD) : RD × Bool :=
  if s.off = true then (s, false) else if (s.armed && decide (s.left = 0)) = true then ({ s with off := true }, false) else if s.armed = true then ({ s with left := wrap64 (s.left - 1) }, true) else (s, true)
theorem ract_any (h : Rd B w x bv lv kv s) : Calls Try.prog 56 #[.pointer (some ⟨x, 0, none⟩)] w fun e w' => e = .returned (.bool (actR s).2) ∧ Rd B w' x bv lv kv (actR s).1 ∧ Kept (fun k => k = x) w w' := by
  have H := Lib.hid h
  obtain ⟨n, base, laid, cache, armed, left, off, cr, cw, cf⟩ := s
  have p4 : w.cell? ⟨x, 4, none⟩ = some (.bool armed) := h.cell 4
  have p5 : w.cell? ⟨x, 5, none⟩ = some (.int .i64 left) := h.cell 5
  have p6 : w.cell? ⟨x, 6, none⟩ = some (.bool off) := h.cell 6
  have f5 : w.frozen? ⟨x, 5, none⟩ = false := h.free 5
  have f6 : w.frozen? ⟨x, 6, none⟩ = false := h.free 6
  clear h
  go_enter Try.func56, Try.ntmps56
  cases off
  · cases armed
    · go_wp2_with fail
      go_ret
      exact ⟨rfl, H.out, Kept.refl _ _⟩
    · by_cases hl : left = 0
      · have g : (left == 0) = true := by rw [beq_iff_eq]; exact hl
        have E : Hid (actR ⟨n, base, laid, cache, true, left, false, cr, cw, cf⟩ = (⟨n, base, laid, cache, true, left, true, cr, cw, cf⟩, false)) := Lib.hid (by subst hl; rfl)
        clear hl
        go_wp2_with fail
        go_ret
        rw [E.out]
        exact ⟨rfl, H.out.set 6 _ ⟨n, base, laid, cache, true, left, true, cr, cw, cf⟩ rfl rfl rfl rfl rfl, kept_set w _ _ rfl⟩
      · have g : (left == 0) = false := by rw [beq_eq_false_iff_ne]; exact hl
        have hd : decide (left = 0) = false := decide_eq_false hl
        have E : Hid (actR ⟨n, base, laid, cache, true, left, false, cr, cw, cf⟩ = (⟨n, base, laid, cache, true, wrap64 (left - 1), false, cr, cw, cf⟩, true)) := Lib.hid (by simp [actR, hd])
        clear hl hd
        go_wp2_with fail
        go_ret
        rw [E.out]
        exact ⟨rfl, H.out.set 5 _ ⟨n, base, laid, cache, true, wrap64 (left - 1), false, cr, cw, cf⟩ rfl rfl rfl rfl rfl, kept_set w _ _ rfl⟩
  · go_wp2_with fail
    go_ret
    exact ⟨by simp [actR], by simp only [actR]; exact H.out, Kept.refl _ _⟩
def armR (s : RD) (n : Int) : RD × Int := if n < 0 then (s, 1) else if s.off = true then (s, 6) else ({ s with armed := true, left := n }, 0)
theorem rarm_any (h : Rd B w x bv lv kv s) (k : Int) : Calls Try.prog 10 #[.pointer (some ⟨x, 0, none⟩), .int .i64 k] w fun e w' => e = .returned (.int .i64 (armR s k).2) ∧ Rd B w' x bv lv kv (armR s k).1 ∧ Kept (fun k => k = x) w w' := by
  have H := Lib.hid h
  obtain ⟨n, base, laid, cache, armed, left, off, cr, cw, cf⟩ := s
  have p4 : w.cell? ⟨x, 4, none⟩ = some (.bool armed) := h.cell 4
  have p5 : w.cell? ⟨x, 5, none⟩ = some (.int .i64 left) := h.cell 5
  have p6 : w.cell? ⟨x, 6, none⟩ = some (.bool off) := h.cell 6
  have f5 : w.frozen? ⟨x, 5, none⟩ = false := h.free 5
  have f4 : w.frozen? ⟨x, 4, none⟩ = false := h.free 4
  clear h
  go_enter Try.func10, Try.ntmps10
  by_cases hk : k < 0
  · have E : Hid (armR ⟨n, base, laid, cache, armed, left, off, cr, cw, cf⟩ k = (⟨n, base, laid, cache, armed, left, off, cr, cw, cf⟩, 1)) := Lib.hid (by simp [armR, hk])
    go_wp2_with fail
    go_ret
    rw [E.out]
    exact ⟨rfl, H.out, Kept.refl _ _⟩
  · cases off
    · have E : Hid (armR ⟨n, base, laid, cache, armed, left, false, cr, cw, cf⟩ k = (⟨n, base, laid, cache, true, k, false, cr, cw, cf⟩, 0)) := Lib.hid (by simp [armR, hk])
      go_wp2_with fail
      go_ret
      rw [E.out]
      exact ⟨rfl, (H.out.set 4 _ ⟨n, base, laid, cache, true, left, false, cr, cw, cf⟩ rfl rfl rfl rfl rfl).set 5 _ ⟨n, base, laid, cache, true, k, false, cr, cw, cf⟩ rfl rfl rfl rfl rfl, Kept.trans (F := fun k => k = x) (G := fun k => k = x) (kept_set w ⟨x, 4, none⟩ _ rfl) (kept_set _ ⟨x, 5, none⟩ _ rfl) (fun _ _ h => h)⟩
    · have E : Hid (armR ⟨n, base, laid, cache, armed, left, true, cr, cw, cf⟩ k = (⟨n, base, laid, cache, armed, left, true, cr, cw, cf⟩, 6)) := Lib.hid (by simp [armR, hk])
      go_wp2_with fail
      go_ret
      rw [E.out]
      exact ⟨rfl, H.out, Kept.refl _ _⟩
theorem rcounts_any (h : Rd B w x bv lv kv s) : Calls Try.prog 20 #[.pointer (some ⟨x, 0, none⟩)] w fun e w' => e = .returned (.agg #[.int .i64 s.cr, .int .i64 s.cw, .int .i64 s.cf]) ∧ Below w.heap.size w w' := by
  obtain ⟨X, hX⟩ : ∃ X, X = w.alloc (.cells #[.int .i64 0, .int .i64 0, .int .i64 0] 50) := ⟨_, rfl⟩
  have hB : Hid (Below w.heap.size w X) := Lib.hid (by rw [hX]; exact (Below.refl _ _).alloc (Nat.le_refl _) _)
  have hl : ∀ k, X.cell? ⟨x, k, none⟩ = w.cell? ⟨x, k, none⟩ := fun k => hB.out.cell (lt_of_heap h.self)
  have p0 : X.cell? ⟨x, 7, none⟩ = some (.int .i64 s.cr) := (hl 7).trans (h.cell 7)
  have p1 : X.cell? ⟨x, 8, none⟩ = some (.int .i64 s.cw) := (hl 8).trans (h.cell 8)
  have p2 : X.cell? ⟨x, 9, none⟩ = some (.int .i64 s.cf) := (hl 9).trans (h.cell 9)
  have q0 : X.cell? ⟨w.heap.size, 0, none⟩ = some (.int .i64 0) := by rw [hX, World.cell?_alloc_new]; rfl
  have q1 : X.cell? ⟨w.heap.size, 1, none⟩ = some (.int .i64 0) := by rw [hX, World.cell?_alloc_new]; rfl
  have q2 : X.cell? ⟨w.heap.size, 2, none⟩ = some (.int .i64 0) := by rw [hX, World.cell?_alloc_new]; rfl
  have f0 : X.frozen? ⟨w.heap.size, 0, none⟩ = false := by rw [hX]; simp
  have f1 : X.frozen? ⟨w.heap.size, 1, none⟩ = false := by rw [hX]; simp
  have f2 : X.frozen? ⟨w.heap.size, 2, none⟩ = false := by rw [hX]; simp
  have hX' := hX.symm
  have hh : Hid (X.heap[w.heap.size]? = some (.cells #[.int .i64 0, .int .i64 0, .int .i64 0] 50 (0, 0))) := Lib.hid (by rw [hX]; exact heap_alloc_new _ _)
  clear h hX hl
  go_enter Try.func20, Try.ntmps20
  go_wp2_with fail
  clear hX'
  refine bodyPost_ret (v := .agg #[.int .i64 s.cr, .int .i64 s.cw, .int .i64 s.cf]) ?_ rfl ⟨rfl, ?_⟩
  · refine results_cell_row rfl _ _ w.heap.size 50 _ (0, 0) _ rfl (heap_setCell_same _ _ _ _ _ _ (heap_setCell_same _ _ _ _ _ _ (heap_setCell_same _ _ _ _ _ _ hh.out))) Try.underlying50 rfl (by kernel_rfl)
  · exact ((hB.out.setCell (p := ⟨w.heap.size, 0, none⟩) (Nat.le_refl _) _).setCell (p := ⟨w.heap.size, 1, none⟩) (Nat.le_refl _) _).setCell (p := ⟨w.heap.size, 2, none⟩) (Nat.le_refl _) _
end Rf
end Go.Proofs.Ytbdlebengmbooaa
