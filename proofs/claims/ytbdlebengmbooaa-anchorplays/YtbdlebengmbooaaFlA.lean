/-
  Flush, Crash.
-/
import Derived.Test.YtbdlebengmbooaaSetB
namespace Go.Proofs.Ytbdlebengmbooaa
open Go.RowKit Go.Maps
theorem act_same (s : DS) : (actD s).1.cache = s.cache ∧ (actD s).1.med = s.med ∧ (actD s).1.cf = s.cf ∧ (actD s).1.ws = s.ws ∧ (actD s).1.n = s.n ∧ (actD s).1.cw = s.cw := by
  unfold actD
  split
  · exact ⟨rfl, rfl, rfl, rfl, rfl, rfl⟩
  · split
    · exact ⟨rfl, rfl, rfl, rfl, rfl, rfl⟩
    · split
      · exact ⟨rfl, rfl, rfl, rfl, rfl, rfl⟩
      · exact ⟨rfl, rfl, rfl, rfl, rfl, rfl⟩
theorem fate_row {w : World} {g : Nat} {a b : Int} (h : w.heap[g]? = some (.cells #[.int .i64 a, .int .i64 b] 74 (0, 0))) {fn : Func} {p : Tmp} (hr : fn.results = #[.cell p 74]) (tmps : Array Value) (hp : tmps.getD p undef = .pointer (some ⟨g, 0, none⟩)) :
    (results fn tmps).run Try.prog w = .ok (.agg #[.int .i64 a, .int .i64 b]) w :=
  results_cell_row hr _ _ g 74 _ (0, 0) _ hp h Try.underlying74 rfl (by kernel_rfl)
theorem flush1_any (k : Int) (w : World) : Calls Try.prog 52 #[.int .i64 k] w fun e w' => e = .returned (.agg #[.int .i64 1, .int .i64 0]) ∧ Below w.heap.size w w' := by
  go_enter Try.func52, Try.ntmps52
  go_wp2_with fail
  refine bodyPost_ret (v := .agg #[.int .i64 1, .int .i64 0]) ?_ rfl ⟨rfl, (Below.refl _ _).alloc (Nat.le_refl _) _⟩
  exact fate_row (heap_alloc_new _ _) rfl _ rfl
set_option maxHeartbeats 1000000 in
theorem flush_any2 {B : Nat} {w : World} {d mb mp : Nat} {cv : Value} {s : DS} (h : Dv B w d mb mp cv s) (hws : s.cache.length < 1099511627776) :
    Calls Try.prog 31 #[.pointer (some ⟨d, 0, none⟩)] w fun e w' => ∃ cv', e = .returned (.int .i64 (flD s).2) ∧ Dv B w' d mb mp cv' (flD s).1 ∧ Kept (fun k => k = d ∨ k = mb ∨ k = mp) w w' ∧ (cv' = cv ∨ cv' = .slice none 0 0) := by
  have H := Lib.hid h
  have AC := Lib.hid (act_any h)
  clear h
  go_enter Try.func31, Try.ntmps31
  go_wp2_with fail
  refine AC.out.mono ?_
  rintro e w1 ⟨rfl, hd, hk⟩
  have D1 := Lib.hid (And.intro hd hk)
  clear hd hk AC
  by_cases hr : (actD s).2 = 0
  · have hws1 : (actD s).1.cache.length < 1099511627776 := by rw [(act_same s).1]; exact hws
    have e1 : (actD s).1.cache = s.cache ∧ (actD s).1.med = s.med ∧ (actD s).1.cf = s.cf := ⟨(act_same s).1, (act_same s).2.1, (act_same s).2.2.1⟩
    have EF : Hid (flD s = ({ (actD s).1 with med := sets (fun _ => (1, 0)) 0 s.cache s.med, cache := [], cf := up s.cf }, 0)) := Lib.hid (by unfold flD; rw [if_neg (by rw [hr]; decide)])
    have ST := Lib.hid (settle_any2 D1.out.1 52 #[] (fun _ => (1, 0)) (fun w' _ k => flush1_any k w') Try.call52 hws1)
    have E1 := Lib.hid e1
    rw [hr]
    clear hr e1 hws1 hws
    go_wp2_with fail
    refine ST.out.mono ?_
    rintro e w2 ⟨rfl, hd2, hk2⟩
    have D2 := Lib.hid (And.intro hd2 hk2)
    have p8 : w2.cell? ⟨d, 8, none⟩ = some (.int .i64 s.cf) := by rw [hd2.cell 8]; show some (Value.int .i64 (actD s).1.cf) = _; rw [E1.out.2.2]
    have f8 : w2.frozen? ⟨d, 8, none⟩ = false := hd2.free 8
    clear hd2 hk2 ST
    go_wp2_with fail
    go_ret
    rw [EF.out]
    refine ⟨.slice none 0 0, rfl, ?_, ?_, Or.inr rfl⟩
    · have := D2.out.1.set 8 (.int .i64 (up s.cf)) { (actD s).1 with med := sets (fun _ => (1, 0)) 0 s.cache s.med, cache := [], cf := up s.cf } rfl (by show _ = sets (fun _ => (1, 0)) 0 (actD s).1.cache (actD s).1.med; rw [E1.out.1, E1.out.2.1]) rfl rfl rfl
      exact this
    · exact ((D1.out.2.mono (fun k _ h => Or.inl h)).trans D2.out.2 (fun _ _ h => h)).trans (kept_set (F := fun k => k = d ∨ k = mb ∨ k = mp) _ ⟨d, 8, none⟩ _ (Or.inl rfl)) (fun _ _ h => h)
  · have EF : Hid (flD s = actD s) := Lib.hid (by unfold flD; rw [if_pos hr])
    have g : ((actD s).2 == 0) = false := by rw [beq_eq_false_iff_ne]; exact hr
    obtain ⟨r, hrr⟩ : ∃ r, r = (actD s).2 := ⟨_, rfl⟩
    rw [← hrr] at g ⊢
    have RR := Lib.hid hrr
    clear hr hrr
    go_wp2_with fail
    go_ret
    rw [EF.out]
    exact ⟨cv, by rw [← RR.out]; rfl, D1.out.1, D1.out.2.mono (fun k _ h => Or.inl h), Or.inl rfl⟩
/-- The slice v holds the fates fs. -/
def Fts (w : World) (v : Value) (fs : List (Int × Int)) : Prop :=
  ∃ a cap, v = .slice a fs.length cap ∧ fs.length ≤ cap ∧ cap ≤ maxLen ∧ (a = none → cap = 0) ∧ ∀ k, k < fs.length → ∃ b off, a = some ⟨b, off, none⟩ ∧ w.cell? ⟨b, off + k * 2, none⟩ = some (.int .i64 (fs.getD k (0, 0)).1) ∧ w.cell? ⟨b, off + k * 2 + 1, none⟩ = some (.int .i64 (fs.getD k (0, 0)).2)
theorem Fts.below {w w' : World} {v : Value} {fs : List (Int × Int)} (H : Fts w v fs) (hb : Below w.heap.size w w') : Fts w' v fs := by
  obtain ⟨a, cap, e, h1, h2, h0, h3⟩ := H
  refine ⟨a, cap, e, h1, h2, h0, fun k hk => ?_⟩
  obtain ⟨b, off, ea, hc, hc2⟩ := h3 k hk
  exact ⟨b, off, ea, by rw [hb.cell (p := ⟨b, off + k * 2, none⟩) (block_lt_of_cell hc)]; exact hc, by rw [hb.cell (p := ⟨b, off + k * 2 + 1, none⟩) (block_lt_of_cell hc2)]; exact hc2⟩
set_option maxHeartbeats 1000000 in
theorem crash1_any (k : Nat) (w : World) (g : Nat) (v : Value) (fs : List (Int × Int)) (hg : w.cell? ⟨g, 0, none⟩ = some v) (hv : Fts w v fs) : Calls Try.prog 38 #[.int .i64 (k : Int), .pointer (some ⟨g, 0, none⟩)] w fun e w' => e = .returned (.agg #[.int .i64 (fateAt fs k).1, .int .i64 (fateAt fs k).2]) ∧ Below w.heap.size w w' := by
  have V := Lib.hid hv
  obtain ⟨a, cap, rfl, hlc, hcm, hn, hc⟩ := hv
  unfold maxLen at hcm
  obtain ⟨X, hX⟩ : ∃ X, X = w.alloc (.cells #[.int .i64 0, .int .i64 0] 74) := ⟨_, rfl⟩
  have hB : Hid (Below w.heap.size w X) := Lib.hid (by rw [hX]; exact (Below.refl _ _).alloc (Nat.le_refl _) _)
  have hh : Hid (X.heap[w.heap.size]? = some (.cells #[.int .i64 0, .int .i64 0] 74 (0, 0))) := Lib.hid (by rw [hX]; exact heap_alloc_new _ _)
  have q0 : X.cell? ⟨w.heap.size, 0, none⟩ = some (.int .i64 0) := by rw [hX, World.cell?_alloc_new]; rfl
  have q1 : X.cell? ⟨w.heap.size, 1, none⟩ = some (.int .i64 0) := by rw [hX, World.cell?_alloc_new]; rfl
  have f0 : X.frozen? ⟨w.heap.size, 0, none⟩ = false := by rw [hX]; simp
  have f1 : X.frozen? ⟨w.heap.size, 1, none⟩ = false := by rw [hX]; simp
  have pg : X.cell? ⟨g, 0, none⟩ = some (.slice a fs.length cap) := (hB.out.cell (block_lt_of_cell hg)).trans hg
  have hX' := hX.symm
  obtain ⟨N, hN⟩ : ∃ N, N = fs.length := ⟨_, rfl⟩
  rw [← hN] at pg hlc
  have NN := Lib.hid hN
  clear hX hg hN hn
  by_cases hlt : k < N
  · obtain ⟨b, off, rfl, h1, h2⟩ := hc k (by rw [← NN.out]; exact hlt)
    have r0 : X.cell? ⟨b, off + k * 2, none⟩ = some (.int .i64 (fateAt fs k).1) := (hB.out.cell (block_lt_of_cell h1)).trans h1
    have r1 : X.cell? ⟨b, off + k * 2 + 1, none⟩ = some (.int .i64 (fateAt fs k).2) := (hB.out.cell (block_lt_of_cell h2)).trans h2
    have hlt' : (k : Int) < (N : Int) := by omega
    obtain ⟨x, hx⟩ : ∃ x, x = fateAt fs k := ⟨_, rfl⟩
    rw [← hx] at r0 r1 ⊢
    clear hc h1 h2 hx
    go_enter Try.func38, Try.ntmps38
    go_wp2_with fail
    clear hX'
    refine bodyPost_ret (v := .agg #[.int .i64 x.1, .int .i64 x.2]) ?_ rfl ⟨rfl, ?_⟩
    · exact fate_row (heap_setCell_same _ _ _ _ _ _ (heap_setCell_same _ _ _ _ _ _ hh.out)) rfl _ rfl
    · exact (hB.out.setCell (p := ⟨w.heap.size, 0, none⟩) (Nat.le_refl _) _).setCell (p := ⟨w.heap.size, 1, none⟩) (Nat.le_refl _) _
  · have E : Hid (fateAt fs k = (0, 0)) := Lib.hid (by unfold fateAt; rw [List.getD_eq_getElem?_getD, List.getElem?_eq_none (by rw [← NN.out]; omega)]; rfl)
    have hge : ¬ (k : Int) < (N : Int) := by omega
    clear hc
    go_enter Try.func38, Try.ntmps38
    go_wp2_with fail
    clear hX'
    rw [E.out]
    refine bodyPost_ret (v := .agg #[.int .i64 0, .int .i64 0]) ?_ rfl ⟨rfl, ?_⟩
    · exact fate_row (heap_setCell_same _ _ _ _ _ _ (heap_setCell_same _ _ _ _ _ _ hh.out)) rfl _ rfl
    · exact (hB.out.setCell (p := ⟨w.heap.size, 0, none⟩) (Nat.le_refl _) _).setCell (p := ⟨w.heap.size, 1, none⟩) (Nat.le_refl _) _
set_option maxHeartbeats 1000000 in
theorem crash_any2 {B : Nat} {w : World} {d mb mp : Nat} {cv : Value} {s : DS} (h : Dv B w d mb mp cv s) (hws : s.cache.length < 1099511627776) (v : Value) (fs : List (Int × Int)) (hv : ∀ w', Kept (fun k => k = mb) w w' → Fts w' v fs) :
    Calls Try.prog 11 #[.pointer (some ⟨d, 0, none⟩), v] w fun e w' => e = .returned (.int .i64 (cnts (fateAt fs) 0 s.cache)) ∧ Dv B w' d mb mp (.slice none 0 0) (crD s fs) ∧ Kept (fun k => k = d ∨ k = mb ∨ k = mp) w w' := by
  have H := Lib.hid h
  obtain ⟨a, n, c, rfl⟩ : ∃ a n c, v = .slice a n c := by obtain ⟨a, c, e, _⟩ := hv w (Kept.refl _ _); exact ⟨a, _, c, e⟩
  obtain ⟨X, hX⟩ : ∃ X, X = w.alloc (.cells #[.slice a n c] 36) := ⟨_, rfl⟩
  have hB : Hid (Below w.heap.size w X) := Lib.hid (by rw [hX]; exact (Below.refl _ _).alloc (Nat.le_refl _) _)
  have hx : Hid (X.heap[w.heap.size]? = some (.cells #[.slice a n c] 36 (0, 0))) := Lib.hid (by rw [hX]; exact heap_alloc_new _ _)
  have HX := Lib.hid (h.below hB.out)
  have hmb : mb ≠ w.heap.size := by have := lt_of_heap h.med; omega
  have ST := Lib.hid (settle_any2 HX.out 38 #[.pointer (some ⟨w.heap.size, 0, none⟩)] (fateAt fs) (fun w' hk k => crash1_any k w' w.heap.size (.slice a n c) fs (by
      rw [cell_of_row w' w.heap.size 0 _ _ _ ((hk.block _ (lt_of_heap hx.out) (Ne.symm hmb)).trans hx.out)]; rfl) (hv w' ((Below.kept hB.out (fun k => k = mb)).trans hk (fun _ _ h => h)))) Try.call38 hws)
  have hX' := hX.symm
  have hmf : ∀ (fn : Fn) (first cap : Array Value) (w : World), (Instr.makeFunc fn first cap).run Try.prog w = .ok (.func fn first cap) w := by intro fn first cap w; rfl
  clear h hv hX hmb
  go_enter Try.func11, Try.ntmps11
  go_wp2_with fail
  refine ST.out.mono ?_
  rintro e w2 ⟨rfl, hd2, hk2⟩
  have D2 := Lib.hid (And.intro hd2 hk2)
  have p3 : w2.cell? ⟨d, 3, none⟩ = some (.bool s.armed) := hd2.cell 3
  have p4 : w2.cell? ⟨d, 4, none⟩ = some (.int .i64 s.left) := hd2.cell 4
  have p5 : w2.cell? ⟨d, 5, none⟩ = some (.bool s.down) := hd2.cell 5
  have f3 : w2.frozen? ⟨d, 3, none⟩ = false := hd2.free 3
  have f4 : w2.frozen? ⟨d, 4, none⟩ = false := hd2.free 4
  have f5 : w2.frozen? ⟨d, 5, none⟩ = false := hd2.free 5
  clear hd2 hk2 ST hX' hmf
  go_wp2_with fail
  go_ret
  refine ⟨rfl, ?_, ?_⟩
  · exact ((D2.out.1.set 3 (.bool false) { s with med := sets (fateAt fs) 0 s.cache s.med, cache := [], armed := false } rfl rfl rfl rfl rfl).set 4 (.int .i64 0) { s with med := sets (fateAt fs) 0 s.cache s.med, cache := [], armed := false, left := 0 } rfl rfl rfl rfl rfl).set 5 (.bool false) (crD s fs) rfl rfl rfl rfl rfl
  · exact ((((Below.kept hB.out (fun k => k = d ∨ k = mb ∨ k = mp)).trans D2.out.2 (fun _ _ h => h)).trans (kept_set (F := fun k => k = d ∨ k = mb ∨ k = mp) _ ⟨d, 3, none⟩ _ (Or.inl rfl)) (fun _ _ h => h)).trans (kept_set (F := fun k => k = d ∨ k = mb ∨ k = mp) _ ⟨d, 4, none⟩ _ (Or.inl rfl)) (fun _ _ h => h)).trans (kept_set (F := fun k => k = d ∨ k = mb ∨ k = mp) _ ⟨d, 5, none⟩ _ (Or.inl rfl)) (fun _ _ h => h)
theorem flush_any {B : Nat} {w : World} {d mb mp : Nat} {cv : Value} {s : DS} (h : Dv B w d mb mp cv s) (hws : s.ws < 1099511627776) :
    Calls Try.prog 31 #[.pointer (some ⟨d, 0, none⟩)] w fun e w' => ∃ cv', e = .returned (.int .i64 (flD s).2) ∧ Dv B w' d mb mp cv' (flD s).1 ∧ Kept (fun k => k = d ∨ k = mb ∨ k = mp) w w' ∧ (cv' = cv ∨ cv' = .slice none 0 0) := flush_any2 h (by have := h.fit.ws; omega)
theorem crash_any {B : Nat} {w : World} {d mb mp : Nat} {cv : Value} {s : DS} (h : Dv B w d mb mp cv s) (hws : s.ws < 1099511627776) (v : Value) (fs : List (Int × Int)) (hv : ∀ w', Kept (fun k => k = mb) w w' → Fts w' v fs) :
    Calls Try.prog 11 #[.pointer (some ⟨d, 0, none⟩), v] w fun e w' => e = .returned (.int .i64 (cnts (fateAt fs) 0 s.cache)) ∧ Dv B w' d mb mp (.slice none 0 0) (crD s fs) ∧ Kept (fun k => k = d ∨ k = mb ∨ k = mp) w w' := crash_any2 h (by have := h.fit.ws; omega) v fs hv
end Go.Proofs.Ytbdlebengmbooaa
