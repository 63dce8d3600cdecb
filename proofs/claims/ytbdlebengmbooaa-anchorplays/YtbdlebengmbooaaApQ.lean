/-
  ApP, ApN, ApS, joined.
-/
import Derived.Test.YtbdlebengmbooaaApRm
import Derived.Test.YtbdlebengmbooaaAnWm
import Derived.Test.YtbdlebengmbooaaAuM
import Derived.Test.YtbdlebengmbooaaPkG
import Derived.Test.YtbdlebengmbooaaFlA
import Derived.Test.YtbdlebengmbooaaEdA
import Derived.Test.YtbdlebengmbooaaMeA
import Derived.Test.YtbdlebengmbooaaMsk
section S0
namespace Go.Proofs.Ytbdlebengmbooaa
open Go.RowKit Go.Maps
namespace Rf
variable {B : Nat} {w0 w w' W W' W2 : World} {d mb mp : Nat} {cv cv' : Value} {x : Nat} {bv lv kv bv' lv' kv' : Value} {s s' s0 : DS} {r r' : RD}
theorem rfoot_ty (h : Rd B w x bv lv kv r) (k : Nat) (hk : RFoot x lv kv k) : ∃ cs t m, w.heap[k]? = some (.cells cs t m) ∧ (t = 65 ∨ t = 77) := by
  rcases hk with rfl | hf | hf
  · exact ⟨_, _, _, h.self, .inl rfl⟩
  · obtain ⟨cs, m, hq⟩ := h.laid.ty k hf
    exact ⟨_, _, _, hq, .inr rfl⟩
  · obtain ⟨cs, m, hq⟩ := h.cache.ty k hf
    exact ⟨_, _, _, hq, .inr rfl⟩
theorem foots (h : Dv B w d mb mp cv s) (h' : Rd B w x bv lv kv r) (k : Nat) (hk : RFoot x lv kv k) : ¬ Foot d mb mp cv k := by
  intro hf
  obtain ⟨cs, t, m, hq, ht⟩ := rfoot_ty h' k hk
  rcases ht with rfl | rfl
  · exact foot_ty h hq (by decide) (by decide) (by decide) hf
  · exact foot_ty h hq (by decide) (by decide) (by decide) hf
/-- Both devices, in memory that came up behind w0. -/
structure Pr (w0 W : World) (d x : Nat) (s : DS) (r : RD) : Prop where
  mem : ∃ mb mp cv bv lv kv, Dv w0.heap.size W d mb mp cv s ∧ Rd w0.heap.size W x bv lv kv r
  bel : Below w0.heap.size w0 W
/-- What is of no device's type stays: rows and boxes. -/
structure Lk (W W' : World) : Prop where
  row : ∀ (B' e k n : Nat) (v : Value) (xs : List Value), e ≠ 62 → e ≠ 80 → e ≠ 86 → e ≠ 65 → e ≠ 77 → W.ownsRow B' e k v n xs → W'.ownsRow B' e k v n xs
  box : ∀ (g : Nat) (cs : Array Value) (e : TypeId) (m : Nat × Nat), e ≠ 62 → e ≠ 80 → e ≠ 86 → e ≠ 65 → e ≠ 77 → W.heap[g]? = some (.cells cs e m) → W'.heap[g]? = some (.cells cs e m)
  size : W.heap.size ≤ W'.heap.size
theorem Lk.below (h : Below W.heap.size W W') : Lk W W' := ⟨fun _ _ _ _ _ _ _ _ _ _ _ H => owns_below H h, fun g _ _ _ _ _ _ _ _ H => (h.block g (lt_of_heap H)).trans H, h.size⟩
theorem Lk.trans (h : Lk W W') (h' : Lk W' W2) : Lk W W2 := ⟨fun B' e k n v xs a b c f g H => h'.row B' e k n v xs a b c f g (h.row B' e k n v xs a b c f g H), fun g cs e m a b c f i H => h'.box g cs e m a b c f i (h.box g cs e m a b c f i H), Nat.le_trans h.size h'.size⟩
theorem Lk.dev (hd : Dv B W d mb mp cv s) (hk : Kept (Foot d mb mp cv) W W') : Lk W W' :=
  ⟨fun _ _ _ _ _ _ h1 h2 h3 _ _ H => row_kept H hk (foot_ne hd H h1 h2 h3), fun g _ _ _ h1 h2 h3 _ _ H => (hk.block g (lt_of_heap H) (foot_ty hd H h1 h2 h3)).trans H, hk.size⟩
theorem Lk.ref (hr : Rd B W x bv lv kv r) (hk : Kept (RFoot x lv kv) W W') : Lk W W' :=
  ⟨fun _ _ _ _ _ _ _ _ _ h4 h5 H => row_kept H hk (hr.row_ne H h4 h5), fun g _ _ _ _ _ _ h4 h5 H => (hk.block g (lt_of_heap H) (fun hf => by
    obtain ⟨cs, t, m, hq, ht⟩ := rfoot_ty hr g hf
    rw [H] at hq
    simp only [Option.some.injEq, Obj.cells.injEq] at hq
    rcases ht with q | q
    · exact h4 (hq.2.1.trans q)
    · exact h5 (hq.2.1.trans q))).trans H, hk.size⟩
theorem Lk.own (h : Lk W W') {B' : Nat} {v : Value} {l : List UInt8} (ho : Own B' W v l) : Own B' W' v l := h.row _ _ _ _ _ _ (by decide) (by decide) (by decide) (by decide) (by decide) ho
theorem Lk.fates (h : Lk W W') {B' n : Nat} {v : Value} {xs : List Value} (ho : W.ownsRow B' 74 2 v n xs) : W'.ownsRow B' 74 2 v n xs := h.row _ _ _ _ _ _ (by decide) (by decide) (by decide) (by decide) (by decide) ho
theorem Pr.below {x : Nat} (h : Pr w0 W d x s r) (hb : Below W.heap.size W W') : Pr w0 W' d x s r := by
  obtain ⟨⟨mb, mp, cv, bv, lv, kv, h1, h2⟩, h3⟩ := h
  exact ⟨⟨mb, mp, cv, bv, lv, kv, h1.below hb, h2.below hb⟩, h3.trans (hb.mono h3.size)⟩
theorem Pr.dev (h1 : Dv w0.heap.size W d mb mp cv s) (h2 : Rd w0.heap.size W x bv lv kv r) (h3 : Below w0.heap.size w0 W) (hd : Dv w0.heap.size W' d mb mp cv' s') (hk : Kept (Foot d mb mp cv) W W') : Pr w0 W' d x s' r ∧ Lk W W' :=
  ⟨⟨⟨mb, mp, cv', bv, lv, kv, hd, h2.kept hk (fun k e => foots h1 h2 k e) (fun _ _ ho k e => h1.bytes_ne ho k e)⟩, h3.trans (hk.below h3.size (fun k e => (h1.foot_lt k e).1))⟩, Lk.dev h1 hk⟩
theorem Pr.ref (h1 : Dv w0.heap.size W d mb mp cv s) (h2 : Rd w0.heap.size W x bv lv kv r) (h3 : Below w0.heap.size w0 W) (hl : RL w0.heap.size W x bv lv kv W' r') : Pr w0 W' d x s r' ∧ Lk W W' := by
  obtain ⟨lv', kv', hr, hk, _⟩ := hl
  exact ⟨⟨⟨mb, mp, cv, bv, lv', kv', h1.kept hk (fun k e f => foots h1 h2 k f e), hr⟩, h3.trans (hk.below h3.size (fun k e => (h2.foot_lt k e).1))⟩, Lk.ref h2 hk⟩
theorem pr_write (H : Pr w0 W d x s r) (hn : s.ws < 1099511627776) (hcl : s.cache.length ≤ 1) (S : Sup) : Calls Try.prog 7 #[.pointer (some ⟨d, 0, none⟩), .agg S.arr] W fun e w' => e = .returned (.int .i64 (wrA s S).2) ∧ Pr w0 w' d x (wrA s S).1 r ∧ Lk W w' := by
  obtain ⟨⟨mb, mp, cv, bv, lv, kv, h1, h2⟩, h3⟩ := H
  refine (write_a h1 S (by omega) (by omega)).mono ?_
  rintro e w' ⟨cv', rfl, hd, hk, _⟩
  exact ⟨rfl, Pr.dev h1 h2 h3 hd hk⟩
theorem pr_rwrite (H : Pr w0 W d x s r) (hrel : Rel s0 r) (hfit : Fit s0) (hn : r.laid.length + r.cache.length < 1100000000000) (S : Sup) : Calls Try.prog 8 #[.pointer (some ⟨x, 0, none⟩), .agg S.arr] W fun e w' => e = .returned (.int .i64 (wrA s0 S).2) ∧ ∃ r', Pr w0 w' d x s r' ∧ Lk W w' ∧ Rel (wrA s0 S).1 r' ∧ r'.laid.length + r'.cache.length ≤ r.laid.length + r.cache.length + 1 := by
  obtain ⟨⟨mb, mp, cv, bv, lv, kv, h1, h2⟩, h3⟩ := H
  refine (rwrite_a h2 hrel hfit h3.size S (by omega)).mono ?_
  rintro e w' ⟨rfl, r', hl, q1, q2⟩
  obtain ⟨p1, p2⟩ := Pr.ref h1 h2 h3 hl
  exact ⟨rfl, r', p1, p2, q1, q2⟩
theorem pr_read (H : Pr w0 W d x s r) : Calls Try.prog 17 #[.pointer (some ⟨d, 0, none⟩)] W fun e w' => e = .returned (.tuple #[.agg (readR s).1.arr, .int .i64 (readR s).2.1, .int .i64 (readR s).2.2]) ∧ Pr w0 w' d x (redS s) r ∧ Lk W w' := by
  obtain ⟨⟨mb, mp, cv, bv, lv, kv, h1, h2⟩, h3⟩ := H
  refine (read_r h1).mono ?_
  rintro e w' ⟨rfl, hd, hk⟩
  exact ⟨rfl, Pr.dev h1 h2 h3 hd (hk.mono (fun _ _ e => .inl e))⟩
theorem pr_rread (H : Pr w0 W d x s r) (hrel : Rel s0 r) (hfit : Fit s0) : Calls Try.prog 18 #[.pointer (some ⟨x, 0, none⟩)] W fun e w' => e = .returned (.tuple #[.agg (readR s0).1.arr, .int .i64 (readR s0).2.1, .int .i64 (readR s0).2.2]) ∧ ∃ r', Pr w0 w' d x s r' ∧ Lk W w' ∧ Rel (redS s0) r' ∧ r'.laid.length + r'.cache.length = r.laid.length + r.cache.length := by
  obtain ⟨⟨mb, mp, cv, bv, lv, kv, h1, h2⟩, h3⟩ := H
  refine (rread_r h2 hrel hfit).mono ?_
  rintro e w' ⟨rfl, r', hd, q1, hk, q2⟩
  obtain ⟨p1, p2⟩ := Pr.ref h1 h2 h3 (RL.self hd hk)
  exact ⟨rfl, r', p1, p2, q1, q2⟩
theorem pr_counts (H : Pr w0 W d x s r) : Calls Try.prog 19 #[.pointer (some ⟨d, 0, none⟩)] W fun e w' => e = .returned (.agg #[.int .i64 s.cr, .int .i64 s.cw, .int .i64 s.cf]) ∧ Below W.heap.size W w' := by
  obtain ⟨⟨mb, mp, cv, bv, lv, kv, h1, h2⟩, h3⟩ := H
  exact counts_any h1
theorem pr_rcounts (H : Pr w0 W d x s r) : Calls Try.prog 20 #[.pointer (some ⟨x, 0, none⟩)] W fun e w' => e = .returned (.agg #[.int .i64 r.cr, .int .i64 r.cw, .int .i64 r.cf]) ∧ Below W.heap.size W w' := by
  obtain ⟨⟨mb, mp, cv, bv, lv, kv, h1, h2⟩, h3⟩ := H
  exact rcounts_any h2
theorem pr_arm (H : Pr w0 W d x s r) (k : Int) : Calls Try.prog 9 #[.pointer (some ⟨d, 0, none⟩), .int .i64 k] W fun e w' => e = .returned (.int .i64 (armD s k).2) ∧ Pr w0 w' d x (armD s k).1 r ∧ Lk W w' := by
  obtain ⟨⟨mb, mp, cv, bv, lv, kv, h1, h2⟩, h3⟩ := H
  refine (arm_any h1 k).mono ?_
  rintro e w' ⟨rfl, hd, hk⟩
  exact ⟨rfl, Pr.dev h1 h2 h3 hd (hk.mono (fun _ _ e => .inl e))⟩
theorem pr_rarm (H : Pr w0 W d x s r) (hrel : Rel s0 r) (k : Int) : Calls Try.prog 10 #[.pointer (some ⟨x, 0, none⟩), .int .i64 k] W fun e w' => e = .returned (.int .i64 (armD s0 k).2) ∧ ∃ r', Pr w0 w' d x s r' ∧ Lk W w' ∧ Rel (armD s0 k).1 r' ∧ r'.laid.length + r'.cache.length = r.laid.length + r.cache.length := by
  obtain ⟨⟨mb, mp, cv, bv, lv, kv, h1, h2⟩, h3⟩ := H
  have SS := arm_same hrel k
  refine (rarm_any h2 k).mono ?_
  rintro e w' ⟨rfl, hd, hk⟩
  obtain ⟨p1, p2⟩ := Pr.ref h1 h2 h3 (RL.self hd hk)
  rw [SS.1]
  refine ⟨rfl, _, p1, p2, SS.2, ?_⟩
  unfold armR
  split
  · rfl
  · split <;> rfl
theorem pr_crash (H : Pr w0 W d x s r) (hn : s.ws < 1099511627776) {B' : Nat} {v : Value} {fs : List (Int × Int)} (ho : W.ownsRow B' 74 2 v fs.length (cellsF fs)) : Calls Try.prog 11 #[.pointer (some ⟨d, 0, none⟩), v] W fun e w' => ∃ c, e = .returned (.int .i64 c) ∧ Pr w0 w' d x (crD s fs) r ∧ Lk W w' := by
  obtain ⟨⟨mb, mp, cv, bv, lv, kv, h1, h2⟩, h3⟩ := H
  refine (crash_any h1 (by omega) v fs (fun w' hk => fts_own (row_kept ho hk (fun g hg e => foot_ne h1 ho (by decide) (by decide) (by decide) g hg (.inr (.inl e)))))).mono ?_
  rintro e w' ⟨rfl, hd, hk⟩
  have hk' : Kept (Foot d mb mp cv) W w' := hk.mono (fun k _ e => by rcases e with e | e | e; exact .inl e; exact .inr (.inl e); exact .inr (.inr (.inl e)))
  exact ⟨_, rfl, Pr.dev h1 h2 h3 hd hk'⟩
theorem pr_rcrash (H : Pr w0 W d x s r) (hrel : Rel s0 r) (hn : r.laid.length + r.cache.length < 1100000000000) {B' : Nat} {v : Value} {fs : List (Int × Int)} (ho : W.ownsRow B' 74 2 v fs.length (cellsF fs)) : Calls Try.prog 13 #[.pointer (some ⟨x, 0, none⟩), v] W fun e w' => ∃ c, e = .returned (.int .i64 c) ∧ ∃ r', Pr w0 w' d x s r' ∧ Lk W w' ∧ Rel (crD s0 fs) r' ∧ r'.laid.length + r'.cache.length ≤ r.laid.length + r.cache.length := by
  obtain ⟨⟨mb, mp, cv, bv, lv, kv, h1, h2⟩, h3⟩ := H
  refine (rcrash_any h2 h3.size (by omega) (fun y hy => (hrel.c0 y hy).2.2) v fs (fun w' hk => fts_own (row_kept ho hk (h2.row_ne ho (by decide) (by decide))))).mono ?_
  rintro e w' ⟨rfl, hl⟩
  obtain ⟨p1, p2⟩ := Pr.ref h1 h2 h3 hl
  refine ⟨_, rfl, _, p1, p2, (crash_same hrel fs).2, ?_⟩
  unfold crR
  have := crL_length (fateAt fs) r.cache 0
  simp only [List.length_append, List.length_nil]
  omega
theorem pr_edit (H : Pr w0 W d x s r) (i a : Int) {v : Value} {l : List UInt8} (hv : Bytes W v l) : Calls Try.prog 14 #[.pointer (some ⟨d, 0, none⟩), .int .i64 i, .int .i64 a, v] W fun e w' => e = .returned (.int .i64 (edD s i a l).2) ∧ Pr w0 w' d x (edD s i a l).1 r ∧ Lk W w' := by
  obtain ⟨⟨mb, mp, cv, bv, lv, kv, h1, h2⟩, h3⟩ := H
  refine (edit_any h1 i a v l hv).mono ?_
  rintro e w' ⟨rfl, hd, hk⟩
  exact ⟨rfl, Pr.dev h1 h2 h3 hd (hk.mono (fun _ _ e => .inr (.inl e)))⟩
theorem pr_redit (H : Pr w0 W d x s r) (hrel : Rel s0 r) (hn : r.laid.length + r.cache.length < 1100000000000) (i a : Int) {v : Value} {l : List UInt8} (hv : Bytes W v l) : Calls Try.prog 16 #[.pointer (some ⟨x, 0, none⟩), .int .i64 i, .int .i64 a, v] W fun e w' => e = .returned (.int .i64 (edD s0 i a l).2) ∧ ∃ r', Pr w0 w' d x s r' ∧ Lk W w' ∧ Rel (edD s0 i a l).1 r' ∧ r'.laid.length + r'.cache.length ≤ r.laid.length + r.cache.length + 1 := by
  obtain ⟨⟨mb, mp, cv, bv, lv, kv, h1, h2⟩, h3⟩ := H
  refine (redit_any h2 h3.size i a v l hv (by omega)).mono ?_
  rintro e w' ⟨y, rfl, hl, q1, q2, q3⟩
  have SS := edit_same hrel i a l y q1 q2 q3
  rw [SS.1]
  obtain ⟨p1, p2⟩ := Pr.ref h1 h2 h3 hl
  refine ⟨rfl, _, p1, p2, SS.2, ?_⟩
  unfold edR
  repeat' split
  all_goals simp [List.length_append] <;> omega
theorem pr_med (H : Pr w0 W d x s r) : Calls Try.prog 22 #[.pointer (some ⟨d, 0, none⟩)] W fun e w' => ∃ v, e = .returned v ∧ Own W.heap.size w' v s.med ∧ Below W.heap.size W w' := by
  obtain ⟨⟨mb, mp, cv, bv, lv, kv, h1, h2⟩, h3⟩ := H
  refine (medium_any h1).mono ?_
  rintro e w' ⟨rfl, ho, hb⟩
  exact ⟨_, rfl, ho, hb⟩
theorem pr_rmed (H : Pr w0 W d x s r) (hrel : Rel s0 r) : Calls Try.prog 23 #[.pointer (some ⟨x, 0, none⟩)] W fun e w' => ∃ v, e = .returned v ∧ Own W.heap.size w' v s0.med ∧ Below W.heap.size W w' := by
  obtain ⟨⟨mb, mp, cv, bv, lv, kv, h1, h2⟩, h3⟩ := H
  refine (rmed_any h2).mono ?_
  rintro e w' ⟨v, rfl, ho, hb⟩
  exact ⟨v, rfl, by rw [hrel.med] at ho; exact ho, hb⟩
end Rf
end Go.Proofs.Ytbdlebengmbooaa
end S0

section S1
namespace Go.Proofs.Ytbdlebengmbooaa
open Go.RowKit Go.Maps
theorem and_255 (n : Int) : bits .and .i64 n 255 = (((n % 256).toNat : Nat) : Int) := by
  have h := and_low n 8 (by decide)
  have e : ((2 ^ 8 - 1 : Nat) : Int) = 255 := by decide
  rw [e] at h
  rw [h]
  omega
set_option maxRecDepth 100000 in
set_option maxHeartbeats 4000000 in
theorem read_nil (w : World) : Calls Try.prog 17 #[.pointer none] w fun e w' => e = .returned (.tuple #[.agg zeroS.arr, .int .i64 0, .int .i64 1]) ∧ Below w.heap.size w w' := by
  obtain ⟨X1, hX1⟩ : ∃ X, X = w.alloc (.cells #[.int .i64 0, .int .i64 0, .int .i64 0, .int .i64 0, .int .i64 0, .int .i64 0, .int .i64 0, .int .i64 0, .int .i64 0] 34) := ⟨_, rfl⟩
  obtain ⟨gr, hgr⟩ : ∃ g, g = w.heap.size := ⟨_, rfl⟩
  have b1 : Below w.heap.size w X1 := by rw [hX1]; exact (Below.refl _ _).alloc (Nat.le_refl _) _
  have G1 : Hid (X1.heap[gr]? = some (.cells zeroS.arr 34 (0, 0)) ∧ Below w.heap.size w X1) := Lib.hid ⟨by rw [hgr, hX1]; exact heap_alloc_new _ _, b1⟩
  have GS : Hid (w.heap.size = gr) := Lib.hid hgr.symm
  have hX1' := hX1.symm
  have hgr' := hgr.symm
  clear hX1 hgr b1
  go_enter Try.func17, Try.ntmps17
  go_wp2_with (first | (refine wpList_store_row rfl 34 (.tmp 2) (.tmp 12) rfl gr zeroS.arr rfl rfl 34 zeroS.arr G1.out.1 size_super rfl (arr_one _) ?_))
  exact bodyPost_ret (results_cell2 rfl _ _ ⟨gr, 0, none⟩ (.agg zeroS.arr) rfl (load_super _ _ zeroS (setRow_heap _ _ _ _ _ _ G1.out.1))) rfl ⟨rfl, G1.out.2.trans ((kept_setRow X1 gr zeroS.arr).below G1.out.2.size (fun k e => by rw [GS.out]; omega))⟩
theorem write_nil (S : Sup) (w : World) : Calls Try.prog 7 #[.pointer none, .agg S.arr] w fun e w' => e = .returned (.int .i64 1) ∧ Below w.heap.size w w' := by
  obtain ⟨xgen, xep, xblk, xlog, xst, xpl, xrt, xcnt, xver⟩ := S
  unfold Sup.arr
  simp only
  go_enter Try.func7, Try.ntmps7
  go_wp2_with fail
  refine wp_region_quiet_below (by kernel_rfl) (by kernel_rfl) ?_
  repeat (go_big_quiet_step (first | fail))
  refine wpQuiet_nil ?_
  intro _ hw'
  obtain ⟨⟨dq, osq⟩, hw''⟩ := hw'
  subst hw''
  go_wp2_with fail
  go_ret
  have q0 : Below w.heap.size w (w.alloc (.cells #[.int .i64 xgen, .int .i64 xep, .int .i64 xblk, .int .i64 xlog, .int .i64 xst, .int .i64 xpl, .int .i64 xrt, .int .i64 xcnt, .int .i64 xver] 34)) := (Below.refl _ _).alloc (Nat.le_refl _) _
  exact ⟨rfl, q0.trans ((below_regrown _ dq osq).mono q0.size)⟩
namespace Rf
variable {w0 W : World} {d x : Nat} {s : DS} {r : RD}
theorem Pr.fit (h : Pr w0 W d x s r) : Fit s := by
  obtain ⟨⟨mb, mp, cv, bv, lv, kv, h1, h2⟩, h3⟩ := h
  exact h1.fit
theorem edD_ws (s : DS) (i a : Int) (l : List UInt8) : (edD s i a l).1.ws = s.ws := by
  unfold edD
  repeat' split
  all_goals rfl
theorem armD_ws (s : DS) (k : Int) : (armD s k).1.ws = s.ws := by
  unfold armD
  repeat' split
  all_goals rfl
theorem flD_ws (s : DS) : (flD s).1.ws = s.ws := by
  have k := act_same s
  unfold flD
  split
  · exact k.2.2.2.1
  · exact k.2.2.2.1
theorem wrA_ws (s : DS) (S : Sup) : (wrA s S).1.ws ≤ s.ws + 1 := by
  unfold wrA
  split
  · exact Nat.le_succ _
  · split
    · exact wr_ws s _ _
    · rw [flD_ws]; exact wr_ws s _ _
theorem redS_ws (s : DS) : (redS s).ws = s.ws := by
  unfold redS
  split
  · rfl
  · rfl
/-- Nothing waits to be flushed, but where the device went down amid a Write. -/
def Cz (s : DS) : Prop := s.cache.length ≤ 1 ∧ (s.down = false → s.cache = [])
theorem act_ok (s : DS) (h : (actD s).2 = 0) : (actD s).1.down = false ∧ s.down = false := by
  unfold actD at h ⊢
  split
  · rename_i h1; rw [if_pos h1] at h; exact absurd (show (6 : Int) = 0 from h) (by decide)
  · rename_i h1
    rw [if_neg h1] at h
    split
    · rename_i h2; rw [if_pos h2] at h; exact absurd (show (6 : Int) = 0 from h) (by decide)
    · rename_i h2
      have e : s.down = false := by simpa using h2
      split
      · exact ⟨e, e⟩
      · exact ⟨e, e⟩
theorem act_bad (s : DS) (h : (actD s).2 ≠ 0) : (actD s).1.down = true := by
  unfold actD at h ⊢
  split
  · rfl
  · rename_i h1
    rw [if_neg h1] at h
    split
    · rename_i h2; exact h2
    · rename_i h2
      rw [if_neg h2] at h
      split
      · rename_i h3; rw [if_pos h3] at h; exact absurd rfl h
      · rename_i h3; rw [if_neg h3] at h; exact absurd rfl h
theorem cz_flD (s : DS) (h : s.cache.length ≤ 1) : Cz (flD s).1 := by
  unfold flD
  split
  · rename_i h1
    have e := (act_same s).1
    exact ⟨by rw [e]; exact h, fun q => by rw [act_bad s h1] at q; exact absurd q (by decide)⟩
  · exact ⟨Nat.zero_le _, fun _ => rfl⟩
theorem cz_wrE (s : DS) (i : Int) (p : List UInt8) (h : Cz s) : (wrE s i p).1.cache.length ≤ 1 ∧ ((wrE s i p).2 ≠ 0 → Cz (wrE s i p).1) := by
  unfold wrE
  split
  · exact ⟨h.1, fun _ => h⟩
  · split
    · exact ⟨h.1, fun _ => h⟩
    · split
      · rename_i h1
        have e := (act_same s).1
        exact ⟨by rw [e]; exact h.1, fun _ => ⟨by rw [e]; exact h.1, fun q => by rw [act_bad s h1] at q; exact absurd q (by decide)⟩⟩
      · rename_i h1
        have a := act_ok s (by simpa using h1)
        have e := (act_same s).1
        refine ⟨?_, fun q => absurd rfl q⟩
        show ((actD s).1.cache ++ [_]).length ≤ 1
        rw [e, h.2 a.2]
        exact Nat.le_refl _
theorem cz_wrA (s : DS) (S : Sup) (h : Cz s) : Cz (wrA s S).1 := by
  unfold wrA
  split
  · exact h
  · split
    · rename_i h1; exact (cz_wrE s _ _ h).2 h1
    · exact cz_flD _ (cz_wrE s _ _ h).1
theorem cz_edD (s : DS) (i a : Int) (l : List UInt8) (h : Cz s) : Cz (edD s i a l).1 := by
  unfold edD
  repeat' split
  all_goals exact h
theorem cz_armD (s : DS) (k : Int) (h : Cz s) : Cz (armD s k).1 := by
  unfold armD
  repeat' split
  all_goals exact h
theorem cz_redS (s : DS) (h : Cz s) : Cz (redS s) := by
  unfold redS
  split
  · exact h
  · exact h
/-- Between two steps: both devices, and how much they may hold. -/
structure Lp (w0 W : World) (d x : Nat) (s : DS) (r : RD) (i : Nat) : Prop where
  pr : Pr w0 W d x s r
  rel : Rel s r
  ws : s.ws ≤ i
  ln : r.laid.length + r.cache.length ≤ i
  cz : Cz s
end Rf
/-- A step of the script. -/
structure OpA where
  kind : Int
  sup : Sup
  n : Int
  at_ : Int
  dv : Value
  ds : List UInt8
  fv : Value
  fs : List (Int × Int)
def OpA.cells (o : OpA) : List Value := [.int .i64 o.kind, .int .i64 o.sup.gen, .int .i64 o.sup.ep, .int .i64 o.sup.blk, .int .i64 o.sup.log, .int .i64 o.sup.st, .int .i64 o.sup.pl, .int .i64 o.sup.rt, .int .i64 o.sup.cnt, .int .i64 o.sup.ver, .int .i64 o.n, .int .i64 o.at_, o.dv, o.fv]
def OpA.At (o : OpA) (w : World) : Prop := Bytes w o.dv o.ds ∧ Fts w o.fv o.fs ∧ o.ds.length ≤ 140737488355300 ∧ o.fs.length ≤ 8796093022199
/-- The slice v holds the steps l. -/
def Opa (w : World) (v : Value) (l : List OpA) : Prop :=
  (∀ o ∈ l, o.At w) ∧ ∃ a cap, v = .slice a l.length cap ∧ l.length ≤ cap ∧ cap ≤ maxLen ∧ (l ≠ [] → ∃ b off, a = some ⟨b, off, none⟩ ∧ ∀ j x, l[j]? = some x → ∀ i u, x.cells[i]? = some u → w.cell? ⟨b, off + j * 14 + i, none⟩ = some u)
end Go.Proofs.Ytbdlebengmbooaa
end S1

section S2
namespace Go.Proofs.Ytbdlebengmbooaa
open Go.RowKit Go.Maps
def OpA.arr (o : OpA) : Array Value := #[.int .i64 o.kind, .int .i64 o.sup.gen, .int .i64 o.sup.ep, .int .i64 o.sup.blk, .int .i64 o.sup.log, .int .i64 o.sup.st, .int .i64 o.sup.pl, .int .i64 o.sup.rt, .int .i64 o.sup.cnt, .int .i64 o.sup.ver, .int .i64 o.n, .int .i64 o.at_, o.dv, o.fv]
theorem op_cells {W : World} {g : Nat} {o : OpA} (h : W.heap[g]? = some (.cells o.arr 38 (0, 0))) : W.cell? ⟨g, 0, none⟩ = some (.int .i64 o.kind) ∧ W.cell? ⟨g, 1, none⟩ = some (.int .i64 o.sup.gen) ∧ W.cell? ⟨g, 2, none⟩ = some (.int .i64 o.sup.ep) ∧ W.cell? ⟨g, 3, none⟩ = some (.int .i64 o.sup.blk) ∧ W.cell? ⟨g, 4, none⟩ = some (.int .i64 o.sup.log) ∧ W.cell? ⟨g, 5, none⟩ = some (.int .i64 o.sup.st) ∧ W.cell? ⟨g, 6, none⟩ = some (.int .i64 o.sup.pl) ∧ W.cell? ⟨g, 7, none⟩ = some (.int .i64 o.sup.rt) ∧ W.cell? ⟨g, 8, none⟩ = some (.int .i64 o.sup.cnt) ∧ W.cell? ⟨g, 9, none⟩ = some (.int .i64 o.sup.ver) ∧ W.cell? ⟨g, 10, none⟩ = some (.int .i64 o.n) ∧ W.cell? ⟨g, 11, none⟩ = some (.int .i64 o.at_) ∧ W.cell? ⟨g, 12, none⟩ = some o.dv ∧ W.cell? ⟨g, 13, none⟩ = some o.fv := by
  refine ⟨?_, ?_, ?_, ?_, ?_, ?_, ?_, ?_, ?_, ?_, ?_, ?_, ?_, ?_⟩ <;> (rw [cell_of_row W g _ _ _ _ h]; rfl)
namespace Rf
variable {w0 W W' : World} {d x gx : Nat} {s t : DS} {r : RD} {o : OpA}
theorem Dv.mono {B B' mb mp : Nat} {cv : Value} (h : Dv B W d mb mp cv s) (hB : B' ≤ B) : Dv B' W d mb mp cv s := by
  refine ⟨h.self, h.med, ?_, h.latest, h.fit, Nat.le_trans hB h.b1, Nat.le_trans hB h.b2, Nat.le_trans hB h.b3⟩
  obtain ⟨h1, h2 | ⟨g, cap, cur, hv, hb, hr⟩⟩ := h.cache
  · exact ⟨h1, .inl h2⟩
  · exact ⟨h1, .inr ⟨g, cap, cur, hv, Nat.le_trans hB hb, hr⟩⟩
theorem Rd.mono {B B' : Nat} {bv lv kv : Value} (h : Rd B W x bv lv kv r) (hB : B' ≤ B) : Rd B' W x bv lv kv r :=
  ⟨h.self, h.base.mono hB, h.laid.mono hB, h.cache.mono hB, fun y hy => ⟨(h.ll y hy).own.mono hB, (h.ll y hy).b, (h.ll y hy).a⟩, fun y hy => ⟨(h.lc y hy).own.mono hB, (h.lc y hy).b, (h.lc y hy).a⟩, h.n, h.bl, Nat.le_trans hB h.bx, h.ne⟩
theorem Lp.below {i : Nat} (h : Lp w0 W d x s r i) (hb : Below W.heap.size W W') : Lp w0 W' d x s r i := ⟨h.pr.below hb, h.rel, h.ws, h.ln, h.cz⟩
/-- Amid a step. -/
structure Sp (w0 W : World) (d x : Nat) (s : DS) (r : RD) (gx : Nat) (o : OpA) : Prop where
  pr : Pr w0 W d x s r
  bx : W.heap[gx]? = some (.cells o.arr 38 (0, 0))
theorem Sp.below (h : Sp w0 W d x s r gx o) (hb : Below W.heap.size W W') : Sp w0 W' d x s r gx o := ⟨h.pr.below hb, (hb.block _ (lt_of_heap h.bx)).trans h.bx⟩
theorem Sp.to {s' : DS} {r' : RD} (h : Sp w0 W d x s r gx o) (hp : Pr w0 W' d x s' r') (hl : Lk W W') : Sp w0 W' d x s' r' gx o := ⟨hp, hl.box _ _ _ _ (by decide) (by decide) (by decide) (by decide) (by decide) h.bx⟩
theorem sp_write (H : Sp w0 W d x s r gx o) (hn : s.ws < 1099511627776) (hcl : s.cache.length ≤ 1) : Calls Try.prog 7 #[.pointer (some ⟨d, 0, none⟩), .agg o.sup.arr] W fun e w' => e = .returned (.int .i64 (wrA s o.sup).2) ∧ Sp w0 w' d x (wrA s o.sup).1 r gx o :=
  (pr_write H.pr hn hcl o.sup).mono fun _ _ ⟨h1, h2, h3⟩ => ⟨h1, H.to h2 h3⟩
theorem sp_rwrite (H : Sp w0 W d x t r gx o) (hrel : Rel s r) (hfit : Fit s) (hn : r.laid.length + r.cache.length < 1100000000000) : Calls Try.prog 8 #[.pointer (some ⟨x, 0, none⟩), .agg o.sup.arr] W fun e w' => e = .returned (.int .i64 (wrA s o.sup).2) ∧ ∃ r', Sp w0 w' d x t r' gx o ∧ Rel (wrA s o.sup).1 r' ∧ r'.laid.length + r'.cache.length ≤ r.laid.length + r.cache.length + 1 :=
  (pr_rwrite H.pr hrel hfit hn o.sup).mono fun _ _ ⟨h1, r', h2, h3, h4, h5⟩ => ⟨h1, r', H.to h2 h3, h4, h5⟩
theorem sp_arm (H : Sp w0 W d x s r gx o) : Calls Try.prog 9 #[.pointer (some ⟨d, 0, none⟩), .int .i64 o.n] W fun e w' => e = .returned (.int .i64 (armD s o.n).2) ∧ Sp w0 w' d x (armD s o.n).1 r gx o :=
  (pr_arm H.pr o.n).mono fun _ _ ⟨h1, h2, h3⟩ => ⟨h1, H.to h2 h3⟩
theorem sp_rarm (H : Sp w0 W d x t r gx o) (hrel : Rel s r) : Calls Try.prog 10 #[.pointer (some ⟨x, 0, none⟩), .int .i64 o.n] W fun e w' => e = .returned (.int .i64 (armD s o.n).2) ∧ ∃ r', Sp w0 w' d x t r' gx o ∧ Rel (armD s o.n).1 r' ∧ r'.laid.length + r'.cache.length = r.laid.length + r.cache.length :=
  (pr_rarm H.pr hrel o.n).mono fun _ _ ⟨h1, r', h2, h3, h4, h5⟩ => ⟨h1, r', H.to h2 h3, h4, h5⟩
theorem sp_crash (H : Sp w0 W d x s r gx o) (hn : s.ws < 1099511627776) {B' : Nat} {v : Value} {fs : List (Int × Int)} (ho : W.ownsRow B' 74 2 v fs.length (cellsF fs)) : Calls Try.prog 11 #[.pointer (some ⟨d, 0, none⟩), v] W fun e w' => ∃ c, e = .returned (.int .i64 c) ∧ Sp w0 w' d x (crD s fs) r gx o :=
  (pr_crash H.pr hn ho).mono fun _ _ ⟨c, h1, h2, h3⟩ => ⟨c, h1, H.to h2 h3⟩
theorem sp_rcrash (H : Sp w0 W d x t r gx o) (hrel : Rel s r) (hn : r.laid.length + r.cache.length < 1100000000000) {B' : Nat} {v : Value} {fs : List (Int × Int)} (ho : W.ownsRow B' 74 2 v fs.length (cellsF fs)) : Calls Try.prog 13 #[.pointer (some ⟨x, 0, none⟩), v] W fun e w' => ∃ c, e = .returned (.int .i64 c) ∧ ∃ r', Sp w0 w' d x t r' gx o ∧ Rel (crD s fs) r' ∧ r'.laid.length + r'.cache.length ≤ r.laid.length + r.cache.length :=
  (pr_rcrash H.pr hrel hn ho).mono fun _ _ ⟨c, h1, r', h2, h3, h4, h5⟩ => ⟨c, h1, r', H.to h2 h3, h4, h5⟩
theorem sp_edit (H : Sp w0 W d x s r gx o) {v : Value} {l : List UInt8} (hv : Bytes W v l) : Calls Try.prog 14 #[.pointer (some ⟨d, 0, none⟩), .int .i64 o.n, .int .i64 o.at_, v] W fun e w' => e = .returned (.int .i64 (edD s o.n o.at_ l).2) ∧ Sp w0 w' d x (edD s o.n o.at_ l).1 r gx o :=
  (pr_edit H.pr o.n o.at_ hv).mono fun _ _ ⟨h1, h2, h3⟩ => ⟨h1, H.to h2 h3⟩
theorem sp_redit (H : Sp w0 W d x t r gx o) (hrel : Rel s r) (hn : r.laid.length + r.cache.length < 1100000000000) {v : Value} {l : List UInt8} (hv : Bytes W v l) : Calls Try.prog 16 #[.pointer (some ⟨x, 0, none⟩), .int .i64 o.n, .int .i64 o.at_, v] W fun e w' => e = .returned (.int .i64 (edD s o.n o.at_ l).2) ∧ ∃ r', Sp w0 w' d x t r' gx o ∧ Rel (edD s o.n o.at_ l).1 r' ∧ r'.laid.length + r'.cache.length ≤ r.laid.length + r.cache.length + 1 :=
  (pr_redit H.pr hrel hn o.n o.at_ hv).mono fun _ _ ⟨h1, r', h2, h3, h4, h5⟩ => ⟨h1, r', H.to h2 h3, h4, h5⟩
end Rf
end Go.Proofs.Ytbdlebengmbooaa
end S2
