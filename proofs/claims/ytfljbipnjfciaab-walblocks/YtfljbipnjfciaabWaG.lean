/-
  A log in memory; what it tells.
-/
import Derived.Test.YtfljbipnjfciaabWaF
import Derived.BigQuiet
namespace Go.Proofs.Ytfljbipnjfciaab
open Go.RowKit Go.Maps
/-- The state of a log. -/
structure LS where
  fst : Nat
  n : Nat
  ep : Nat
  fs : Nat
  fa : Nat
  es : Nat
  ea : Nat
  pay : List UInt8
  pend : Nat
  dead : Bool
def logCells (d : Nat) (pv : Value) (s : LS) : Array Value :=
  #[.pointer (some ⟨d, 0, none⟩), .int .i64 (s.fst : Int), .int .i64 (s.n : Int), .int .i64 (s.ep : Int), .int .i64 (s.fs : Int), .int .i64 (s.fa : Int), .int .i64 (s.es : Int), .int .i64 (s.ea : Int), pv, .int .i64 (s.pend : Int), .bool s.dead]
structure LFit (s : LS) : Prop where
  lo : 8 ≤ s.n
  hi : s.n ≤ 512
  fl : s.fst + s.n ≤ 4096
  e1 : 1 ≤ s.ep
  e2 : s.ep ≤ 1152921504606846976
  f1 : 1 ≤ s.fs
  f2 : s.fs ≤ s.es
  f3 : s.es ≤ s.fs + s.n
  f4 : s.es ≤ 1152921504606846977
  a1 : s.fa < s.n
  a2 : s.ea = (s.fa + (s.es - s.fs)) % s.n
  pl : s.pay.length ≤ 464 * (s.n - (s.es - s.fs))
  pq : s.pay.length ≤ 464 * (1152921504606846977 - s.es)
  pp : s.pend ≤ s.pay.length
/-- The log l, over the device d, is in the state s. -/
structure Lg (B : Nat) (w : World) (l d : Nat) (pv : Value) (s : LS) : Prop where
  self : w.heap[l]? = some (.cells (logCells d pv s) 102 (0, 0))
  pay : Own B w pv s.pay
  b : B ≤ l
  fit : LFit s
variable {B : Nat} {w w' : World} {l d : Nat} {pv : Value} {s : LS}
theorem Lg.cell (h : Lg B w l d pv s) (k : Nat) : w.cell? ⟨l, k, none⟩ = (logCells d pv s)[k]? := cell_of_row w l k _ _ _ h.self
theorem Lg.free (h : Lg B w l d pv s) (k : Nat) : w.frozen? ⟨l, k, none⟩ = false := frozen_of_row w l k _ _ h.self
theorem Lg.kept {F : Nat → Prop} (h : Lg B w l d pv s) (hk : Kept F w w') (hl : ¬ F l) (hp : ∀ k, pv.ownBlock = some k → ¬ F k) : Lg B w' l d pv s :=
  ⟨by rw [hk.block _ (lt_of_heap h.self) hl]; exact h.self, h.pay.kept hk hp, h.b, h.fit⟩
theorem Lg.below (h : Lg B w l d pv s) (hb : Below w.heap.size w w') : Lg B w' l d pv s :=
  ⟨by rw [hb.block _ (lt_of_heap h.self)]; exact h.self, h.pay.below hb, h.b, h.fit⟩
theorem Lg.ne (h : Lg B w l d pv s) : ∀ k, pv.ownBlock = some k → ¬ k = l := by
  intro k hk e
  obtain ⟨cur, hc⟩ := row_block h.pay hk
  rw [e, h.self] at hc
  simp at hc
theorem wrap_in {x : Int} (h1 : -9223372036854775808 ≤ x) (h2 : x ≤ 9223372036854775807) : IntKind.i64.wrap x = x := by
  first | exact IntKind.wrap_of_inRange (by simp [IntKind.inRange]; omega) | (unfold IntKind.wrap; simp [IntKind.bits, IntKind.signed]; omega) | (simp [IntKind.wrap]; omega)
theorem field_at (x y : Int) (w : World) : (Instr.field 49 (.agg #[.int .i64 x, .int .i64 y]) 1).run Try.prog w = .ok (.int .i64 y) w := by
  first | kernel_rfl | (simp [Instr.field, run_underlying Try.underlying49]; done)
theorem size_mark : (Try.prog.info? 49).map (·.size) = some 2 := by kernel_rfl
set_option maxHeartbeats 400000 in
theorem blocksOf_any (n : Nat) (hn : n ≤ 1000000) (w : World) : Calls Try.prog 64 #[.int .i64 (n : Int)] w fun e w' => e = .returned (.int .i64 (((n + 463) / 464 : Nat) : Int)) ∧ w' = w := by
  go_enter Try.func64, Try.ntmps64
  go_wp2_with fail
  go_ret
  exact ⟨ret_int (by omega), rfl⟩
set_option maxHeartbeats 400000 in
theorem free_any (h : Lg B w l d pv s) : Calls Try.prog 62 #[.pointer (some ⟨l, 0, none⟩)] w fun e w' => e = .returned (.int .i64 ((s.n - (s.es - s.fs) : Nat) : Int)) ∧ Below w.heap.size w w' := by
  have p2 : w.cell? ⟨l, 2, none⟩ = some (.int .i64 (s.n : Int)) := h.cell 2
  have p4 : w.cell? ⟨l, 4, none⟩ = some (.int .i64 (s.fs : Int)) := h.cell 4
  have p6 : w.cell? ⟨l, 6, none⟩ = some (.int .i64 (s.es : Int)) := h.cell 6
  have h1 := h.fit.hi; have h2 := h.fit.f2; have h3 := h.fit.f3; have h4 := h.fit.f4
  clear h
  go_enter Try.func62, Try.ntmps62
  go_wp2_with fail
  go_quiet (fail)
  go_wp2_with fail
  go_ret
  exact ⟨ret_int (by omega), below_drawn w nq⟩
set_option maxHeartbeats 400000 in
theorem stamps_any (h : Lg B w l d pv s) : Calls Try.prog 63 #[.pointer (some ⟨l, 0, none⟩)] w fun e w' => e = .returned (.int .i64 ((min 512 (1152921504606846977 - s.es) : Nat) : Int)) ∧ w' = w := by
  have p6 : w.cell? ⟨l, 6, none⟩ = some (.int .i64 (s.es : Int)) := h.cell 6
  have h4 := h.fit.f4
  clear h
  go_enter Try.func63, Try.ntmps63
  go_wp2_with fail
  all_goals
    go_ret
    exact ⟨ret_int (by omega), rfl⟩
set_option maxHeartbeats 400000 in
theorem pendL_any (h : Lg B w l d pv s) : Calls Try.prog 53 #[.pointer (some ⟨l, 0, none⟩)] w fun e w' => e = .returned (.int .i64 (s.pend : Int)) ∧ w' = w := by
  have p6 : w.cell? ⟨l, 9, none⟩ = some (.int .i64 (s.pend : Int)) := h.cell 9
  clear h
  go_enter Try.func53, Try.ntmps53
  go_wp2_with fail
  go_ret
  exact ⟨rfl, rfl⟩
set_option maxHeartbeats 400000 in
theorem end_any (h : Lg B w l d pv s) : Calls Try.prog 27 #[.pointer (some ⟨l, 0, none⟩)] w fun e w' => e = .returned (.agg #[.int .i64 (s.es : Int), .int .i64 (s.ea : Int)]) ∧ Below w.heap.size w w' := by
  have p6 : w.cell? ⟨l, 6, none⟩ = some (.int .i64 (s.es : Int)) := h.cell 6
  have p7 : w.cell? ⟨l, 7, none⟩ = some (.int .i64 (s.ea : Int)) := h.cell 7
  have ll := lt_of_heap h.self
  clear h
  go_enter Try.func27, Try.ntmps27
  go_wp2_with fail
  exact bodyPost_ret (results_cell_row rfl _ _ w.heap.size 49 #[.int .i64 (s.es : Int), .int .i64 (s.ea : Int)] (0, 0) _ rfl (heap_alloc_new _ _) Try.underlying49 rfl size_mark) rfl ⟨rfl, (Below.refl _ _).alloc (Nat.le_refl _) _⟩
set_option maxRecDepth 100000 in
set_option maxHeartbeats 800000 in
theorem ahead_any (h : Lg B w l d pv s) (k : Nat) (hk : k ≤ 512) : Calls Try.prog 67 #[.pointer (some ⟨l, 0, none⟩), .int .i64 (k : Int)] w fun e w' => e = .returned (.agg #[.int .i64 ((s.es + k : Nat) : Int), .int .i64 (((s.ea + k) % s.n : Nat) : Int)]) ∧ Below w.heap.size w w' := by
  have p2 : w.cell? ⟨l, 2, none⟩ = some (.int .i64 (s.n : Int)) := h.cell 2
  have p6 : w.cell? ⟨l, 6, none⟩ = some (.int .i64 (s.es : Int)) := h.cell 6
  have p7 : w.cell? ⟨l, 7, none⟩ = some (.int .i64 (s.ea : Int)) := h.cell 7
  have ll := lt_of_heap h.self
  have h1 := h.fit.hi; have h2 := h.fit.lo; have h3 : s.ea < s.n := by rw [h.fit.a2]; exact Nat.mod_lt _ (by have := h.fit.lo; omega)
  have h4 := h.fit.f4
  have q2 := World.new_ne w ⟨l, 2, none⟩ p2
  have hn0 : ¬ (s.n : Int) = 0 := by omega
  clear h
  go_enter Try.func67, Try.ntmps67
  go_wp2_with fail
  go_region_held (fun W : World => W.cell? ⟨l, 2, none⟩ = some (.int .i64 (s.n : Int)) ∧ W.cell? ⟨l, 6, none⟩ = some (.int .i64 (s.es : Int)) ∧ W.cell? ⟨l, 7, none⟩ = some (.int .i64 (s.ea : Int))) (go_keep) (fail)
  go_wp2_with fail
  have hb : Below w.heap.size w (w.alloc (.cells #[.int .i64 ((s.es : Int) + (k : Int)), .int .i64 (((s.ea : Int) + (k : Int)) % (s.n : Int))] 49)) := (Below.refl _ _).alloc (Nat.le_refl _) _
  refine bodyPost_ret (results_cell_row rfl _ _ w.heap.size 49 #[.int .i64 ((s.es : Int) + (k : Int)), .int .i64 (((s.ea : Int) + (k : Int)) % (s.n : Int))] (0, 0) _ rfl (heap_alloc_new w _) Try.underlying49 rfl size_mark) rfl ⟨?_, ⟨hb.os, hb.tape, hb.output, hb.size, hb.block⟩⟩
  have e1 : ((s.es + k : Nat) : Int) = (s.es : Int) + (k : Int) := by omega
  have e2 : (((s.ea + k) % s.n : Nat) : Int) = ((s.ea : Int) + (k : Int)) % (s.n : Int) := by simp
  rw [e1, e2]
set_option maxRecDepth 100000 in
set_option maxHeartbeats 800000 in
theorem place_any (h : Lg B w l d pv s) (k : Nat) (hk : k ≤ 512) : Calls Try.prog 86 #[.pointer (some ⟨l, 0, none⟩), .int .i64 (k : Int)] w fun e w' => e = .returned (.int .i64 ((s.fst + (s.ea + k) % s.n : Nat) : Int)) ∧ Below w.heap.size w w' := by
  have AH := Lib.hid (ahead_any (h.below (below_drawn w 1)) k hk)
  have KS : Hid (∀ W, Below w.heap.size w W → W.cell? ⟨l, 1, none⟩ = some (.int .i64 (s.fst : Int))) := Lib.hid (fun W hb => (h.below hb).cell 1)
  have p1 : w.cell? ⟨l, 1, none⟩ = some (.int .i64 (s.fst : Int)) := h.cell 1
  have h1 := h.fit.hi; have h3 := h.fit.fl; have h2 := h.fit.lo
  obtain ⟨m, hm⟩ : ∃ m, m = (s.ea + k) % s.n := ⟨_, rfl⟩
  rw [← hm] at AH ⊢
  have hmn : m < s.n := by rw [hm]; exact Nat.mod_lt _ (by omega)
  have hf := field_at
  have hr : IntKind.i64.wrap ((s.fst : Int) + (m : Int)) = (s.fst : Int) + (m : Int) := wrap_in (by omega) (by omega)
  clear h hm
  go_enter Try.func86, Try.ntmps86
  go_wp2_with fail
  go_region_held (fun W : World => W.cell? ⟨l, 1, none⟩ = some (.int .i64 (s.fst : Int))) (first | exact KS.out _ hB2 | exact p1) (first | (go_at_call 67; refine AH.out.mono ?_; rintro r w2 ⟨rfl, hb2⟩; have hB2 : Below w.heap.size w w2 := ⟨hb2.os, hb2.tape, hb2.output, hb2.size, hb2.block⟩))
  have B2 := Lib.hid hB2
  clear hB2 hb2
  go_wp2_with fail
  go_ret
  exact ⟨ret_int (by omega), B2.out⟩
set_option maxHeartbeats 400000 in
theorem drop_any (h : Lg B w l d pv s) : Calls Try.prog 47 #[.pointer (some ⟨l, 0, none⟩)] w fun e w' => e = .returned (.tuple #[]) ∧ Lg B w' l d (.slice none 0 0) { s with pay := [], pend := 0 } ∧ Kept (fun k => k = l) w w' := by
  have H := Lib.hid h
  have p8 : ∃ u, w.cell? ⟨l, 8, none⟩ = some u := ⟨_, h.cell 8⟩
  obtain ⟨u8, p8⟩ := p8
  have f8 : w.frozen? ⟨l, 8, none⟩ = false := h.free 8
  obtain ⟨X, hX⟩ : ∃ X, X = w.setCell ⟨l, 8, none⟩ (.slice none 0 0) := ⟨_, rfl⟩
  have gX : X.heap[l]? = some (.cells (logCells d (.slice none 0 0) s) 102 (0, 0)) := by rw [hX, heap_setCell_same _ _ _ _ _ _ h.self]; rfl
  have p9 : X.cell? ⟨l, 9, none⟩ = some (.int .i64 (s.pend : Int)) := by rw [cell_of_row _ _ _ _ _ _ gX]; rfl
  have f9 : X.frozen? ⟨l, 9, none⟩ = false := frozen_of_row _ _ _ _ _ gX
  have GX := Lib.hid gX
  have KX : Hid (Kept (fun k => k = l) w X) := Lib.hid (by rw [hX]; exact kept_set w _ _ rfl)
  have hX' := hX.symm
  clear h gX hX
  go_enter Try.func47, Try.ntmps47
  go_wp2_with fail
  first | go_end0 | refine bodyPost_ret (results_none rfl _ _ _) rfl ?_
  obtain ⟨q1, q2, q3, q4, q5, q6, q7, q8, q9, q10, q11, q12, q13, q14⟩ := H.out.fit
  refine ⟨rfl, ⟨?_, World.ownsRow_nil _ _ _ _, H.out.b, ⟨q1, q2, q3, q4, q5, q6, q7, q8, q9, q10, q11, by simp, by simp, by simp⟩⟩, KX.out.trans (kept_set (F := fun k => k = l) X _ _ rfl) (fun _ _ h => h)⟩
  rw [heap_setCell_same _ _ _ _ _ _ GX.out]
  rfl
end Go.Proofs.Ytfljbipnjfciaab
