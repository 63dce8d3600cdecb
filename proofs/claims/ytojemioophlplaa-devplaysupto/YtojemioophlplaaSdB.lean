/-
  Amid a step: the calls of both devices.
-/
import Derived.Test.YtojemioophlplaaSdA
import Derived.Test.YtojemioophlplaaPlyA
namespace Go.Proofs.Ytojemioophlplaa
open Go.RowKit Go.Maps
namespace Rf
variable {B : Nat} {w0 w w' W W' : World} {p d mb mp : Nat} {cv cv' : Value} {x : Nat} {bv lv kv bv' lv' kv' : Value} {s s' : DS} {r r' : RD} {F : Nat → Prop} {oc : Array Value}
/-- Rows of other things stay. -/
def RK (W W' : World) : Prop := ∀ (B' e k n : Nat) (v : Value) (xs : List Value), e ≠ 60 → e ≠ 66 → e ≠ 68 → e ≠ 63 → e ≠ 71 → W.ownsRow B' e k v n xs → W'.ownsRow B' e k v n xs
theorem RK.of_below (h : Below W.heap.size W W') : RK W W' := fun _ _ _ _ _ _ _ _ _ _ _ H => owns_below H h
theorem RK.own (h : RK W W') {B' : Nat} {v : Value} {l : List UInt8} (ho : Own B' W v l) : Own B' W' v l := h _ _ _ _ _ _ (by decide) (by decide) (by decide) (by decide) (by decide) ho
theorem RK.ints (h : RK W W') {B' : Nat} {v : Value} {l : List Int} (ho : OwnI B' W v l) : OwnI B' W' v l := h _ _ _ _ _ _ (by decide) (by decide) (by decide) (by decide) (by decide) ho
theorem RK.dev (hd : Dv B W d mb mp cv s) (hk : Kept (Foot d mb mp cv) W W') : RK W W' := fun _ _ _ _ _ _ h1 h2 h3 _ _ H => row_kept H hk (foot_ne hd H h1 h2 h3)
theorem RK.ref (hr : Rd B W x bv lv kv r) (hk : Kept (RFoot x lv kv) W W') : RK W W' := fun _ _ _ _ _ _ _ _ _ h4 h5 H => row_kept H hk (hr.row_ne H h4 h5)
/-- A step's call is told thus. -/
abbrev PH (w0 w : World) (F : Nat → Prop) (oc : Array Value) (p d mb mp x : Nat) (bv : Value) (W : World) (cv lv kv : Value) (s : DS) (r : RD) : Prop := Ph w0 w F oc W p d mb mp cv x bv lv kv s r
theorem ph_read (H : PH w0 w F oc p d mb mp x bv W cv lv kv s r) (i : Int) : Calls Try.prog 34 #[.pointer (some ⟨d, 0, none⟩), .int .i64 i] W fun e w' => ∃ v, e = .returned (.tuple #[v, .int .i64 (rdD s i).2.2]) ∧ Own W.heap.size w' v (rdD s i).2.1 ∧ PH w0 w F oc p d mb mp x bv w' cv lv kv (rdD s i).1 r ∧ RK W w' := by
  refine (read_any H.mem.dv i).mono ?_
  rintro e w' ⟨v, rfl, ho, hd, hk⟩
  have hk' : Kept (Foot d mb mp cv) W w' := hk.mono (fun _ _ e => .inl e)
  exact ⟨v, rfl, ho, H.dev hd hk' (fun k e => .inl e), RK.dev H.mem.dv hk'⟩
theorem ph_rread (H : PH w0 w F oc p d mb mp x bv W cv lv kv s r) (i : Int) : Calls Try.prog 35 #[.pointer (some ⟨x, 0, none⟩), .int .i64 i] W fun e w' => ∃ v, e = .returned (.tuple #[v, .int .i64 (rrd r i).2.2]) ∧ Own W.heap.size w' v (rrd r i).2.1 ∧ (∃ lv' kv', PH w0 w F oc p d mb mp x bv w' cv lv' kv' s (rrd r i).1) ∧ RK W w' := by
  refine (rread_any H.mem.rd i).mono ?_
  rintro e w' ⟨v, rfl, ho, hd, hk⟩
  exact ⟨v, rfl, ho, H.ref (RL.self hd hk), RK.ref H.mem.rd (hk.mono (fun _ _ e => .inl e))⟩
theorem ph_raw (H : PH w0 w F oc p d mb mp x bv W cv lv kv s r) (i : Int) : Calls Try.prog 36 #[.pointer (some ⟨d, 0, none⟩), .int .i64 i] W fun e w' => ∃ v, e = .returned (.tuple #[v, .int .i64 (rawD s i).2]) ∧ Own W.heap.size w' v (rawD s i).1 ∧ PH w0 w F oc p d mb mp x bv w' cv lv kv s r ∧ RK W w' := by
  refine (raw_any H.mem.dv i).mono ?_
  rintro e w' ⟨v, rfl, ho, hb⟩
  exact ⟨v, rfl, ho, Ph.below H hb, RK.of_below hb⟩
theorem ph_rraw (H : PH w0 w F oc p d mb mp x bv W cv lv kv s r) (i : Int) : Calls Try.prog 37 #[.pointer (some ⟨x, 0, none⟩), .int .i64 i] W fun e w' => ∃ v, e = .returned (.tuple #[v, .int .i64 (rawQ r i).2]) ∧ Own W.heap.size w' v (rawQ r i).1 ∧ PH w0 w F oc p d mb mp x bv w' cv lv kv s r ∧ RK W w' := by
  refine (rraw_any H.mem.rd i).mono ?_
  rintro e w' ⟨v, rfl, ho, hb⟩
  exact ⟨v, rfl, ho, Ph.below H hb, RK.of_below hb⟩
theorem ph_pend (H : PH w0 w F oc p d mb mp x bv W cv lv kv s r) (hn : s.ws ≤ 1200000) : Calls Try.prog 39 #[.pointer (some ⟨d, 0, none⟩)] W fun e w' => ∃ v, e = .returned v ∧ OwnI W.heap.size w' v (blocksOf s.cache) ∧ PH w0 w F oc p d mb mp x bv w' cv lv kv s r ∧ RK W w' := by
  refine (pending_any H.mem.dv (by omega)).mono ?_
  rintro e w' ⟨v, rfl, ho, hb⟩
  exact ⟨v, rfl, ho, Ph.below H hb, RK.of_below hb⟩
theorem ph_rpend (H : PH w0 w F oc p d mb mp x bv W cv lv kv s r) (hn : r.laid.length + r.cache.length ≤ 1200000) : Calls Try.prog 40 #[.pointer (some ⟨x, 0, none⟩)] W fun e w' => ∃ v, e = .returned v ∧ OwnI W.heap.size w' v (blocksR r.cache) ∧ PH w0 w F oc p d mb mp x bv w' cv lv kv s r ∧ RK W w' := by
  refine (rpending_any H.mem.rd (by omega)).mono ?_
  rintro e w' ⟨v, rfl, ho, hb⟩
  exact ⟨v, rfl, ho, Ph.below H hb, RK.of_below hb⟩
theorem ph_med (H : PH w0 w F oc p d mb mp x bv W cv lv kv s r) : Calls Try.prog 22 #[.pointer (some ⟨d, 0, none⟩)] W fun e w' => ∃ v, e = .returned v ∧ Own W.heap.size w' v s.med ∧ PH w0 w F oc p d mb mp x bv w' cv lv kv s r ∧ RK W w' := by
  refine (medium_any H.mem.dv).mono ?_
  rintro e w' ⟨rfl, ho, hb⟩
  exact ⟨_, rfl, ho, Ph.below H hb, RK.of_below hb⟩
theorem ph_rmed (H : PH w0 w F oc p d mb mp x bv W cv lv kv s r) : Calls Try.prog 24 #[.pointer (some ⟨x, 0, none⟩)] W fun e w' => ∃ v, e = .returned v ∧ Own W.heap.size w' v (medR r) ∧ PH w0 w F oc p d mb mp x bv w' cv lv kv s r ∧ RK W w' := by
  refine (rmed_any H.mem.rd).mono ?_
  rintro e w' ⟨v, rfl, ho, hb⟩
  exact ⟨v, rfl, ho, Ph.below H hb, RK.of_below hb⟩
theorem ph_down (H : PH w0 w F oc p d mb mp x bv W cv lv kv s r) : Calls Try.prog 41 #[.pointer (some ⟨d, 0, none⟩)] W fun e w' => e = .returned (.bool s.down) ∧ PH w0 w F oc p d mb mp x bv w' cv lv kv s r := by
  refine (down_any H.mem.dv).mono ?_
  rintro e w' ⟨rfl, rfl⟩
  exact ⟨rfl, H⟩
theorem ph_rdown (H : PH w0 w F oc p d mb mp x bv W cv lv kv s r) : Calls Try.prog 42 #[.pointer (some ⟨x, 0, none⟩)] W fun e w' => e = .returned (.bool r.off) ∧ PH w0 w F oc p d mb mp x bv w' cv lv kv s r := by
  refine (rdown_any H.mem.rd).mono ?_
  rintro e w' ⟨rfl, rfl⟩
  exact ⟨rfl, H⟩
theorem ph_blocks (H : PH w0 w F oc p d mb mp x bv W cv lv kv s r) : Calls Try.prog 45 #[.pointer (some ⟨d, 0, none⟩)] W fun e w' => e = .returned (.int .i64 s.n) ∧ PH w0 w F oc p d mb mp x bv w' cv lv kv s r := by
  refine (blocks_any H.mem.dv).mono ?_
  rintro e w' ⟨rfl, rfl⟩
  exact ⟨rfl, H⟩
theorem ph_rblocks (H : PH w0 w F oc p d mb mp x bv W cv lv kv s r) : Calls Try.prog 46 #[.pointer (some ⟨x, 0, none⟩)] W fun e w' => e = .returned (.int .i64 r.n) ∧ PH w0 w F oc p d mb mp x bv w' cv lv kv s r := by
  refine (rblocks_any H.mem.rd).mono ?_
  rintro e w' ⟨rfl, rfl⟩
  exact ⟨rfl, H⟩
theorem ph_counts (H : PH w0 w F oc p d mb mp x bv W cv lv kv s r) : Calls Try.prog 43 #[.pointer (some ⟨d, 0, none⟩)] W fun e w' => e = .returned (.agg #[.int .i64 s.cr, .int .i64 s.cw, .int .i64 s.cf]) ∧ PH w0 w F oc p d mb mp x bv w' cv lv kv s r := by
  refine (counts_any H.mem.dv).mono ?_
  rintro e w' ⟨rfl, hb⟩
  exact ⟨rfl, Ph.below H hb⟩
theorem ph_rcounts (H : PH w0 w F oc p d mb mp x bv W cv lv kv s r) : Calls Try.prog 44 #[.pointer (some ⟨x, 0, none⟩)] W fun e w' => e = .returned (.agg #[.int .i64 r.cr, .int .i64 r.cw, .int .i64 r.cf]) ∧ PH w0 w F oc p d mb mp x bv w' cv lv kv s r := by
  refine (rcounts_any H.mem.rd).mono ?_
  rintro e w' ⟨rfl, hb⟩
  exact ⟨rfl, Ph.below H hb⟩
theorem ph_write (H : PH w0 w F oc p d mb mp x bv W cv lv kv s r) (hn : s.ws ≤ 1200000) (i : Int) {B' : Nat} {v : Value} {l : List UInt8} (ho : Own B' W v l) : Calls Try.prog 10 #[.pointer (some ⟨d, 0, none⟩), .int .i64 i, v] W fun e w' => e = .returned (.int .i64 (wrE s i l).2) ∧ (∃ cv', PH w0 w F oc p d mb mp x bv w' cv' lv kv (wrE s i l).1 r) ∧ RK W w' := by
  refine (write_any H.mem.dv i v l (fun w' hk => (ho.kept hk (fun k e f => H.mem.dv.bytes_ne ho k e (.inl f))).bytes) (by omega)).mono ?_
  rintro e w' ⟨cv', rfl, hd, hk, ha⟩
  exact ⟨rfl, ⟨cv', H.dev hd hk (fun k e => (ha k e.symm).imp Eq.symm id)⟩, RK.dev H.mem.dv hk⟩
theorem ph_rwrite (H : PH w0 w F oc p d mb mp x bv W cv lv kv s r) (hn : r.laid.length + r.cache.length ≤ 1200000) (i : Int) {B' : Nat} {v : Value} {l : List UInt8} (ho : Own B' W v l) : Calls Try.prog 11 #[.pointer (some ⟨x, 0, none⟩), .int .i64 i, v] W fun e w' => ∃ y : Ly, e = .returned (.int .i64 (wrR r i l y).2) ∧ (∃ lv' kv', PH w0 w F oc p d mb mp x bv w' cv lv' kv' s (wrR r i l y).1) ∧ (y.b = i.toNat ∧ y.a = 0 ∧ y.l = l) ∧ RK W w' := by
  refine (rwrite_any H.mem.rd H.bel.size i v l (fun w' hk => (ho.kept hk (fun k e f => H.mem.rd.bytes_ne ho k e (.inl f))).bytes) (by omega)).mono ?_
  rintro e w' ⟨y, rfl, hl, h1, h2, h3⟩
  refine ⟨y, rfl, Ph.ref H hl, ⟨h1, h2, h3⟩, ?_⟩
  obtain ⟨_, _, _, hk, _⟩ := hl
  exact RK.ref H.mem.rd hk
theorem ph_flush (H : PH w0 w F oc p d mb mp x bv W cv lv kv s r) (hn : s.ws ≤ 1200000) : Calls Try.prog 13 #[.pointer (some ⟨d, 0, none⟩)] W fun e w' => e = .returned (.int .i64 (flD s).2) ∧ ∃ cv', PH w0 w F oc p d mb mp x bv w' cv' lv kv (flD s).1 r := by
  refine (flush_any H.mem.dv (by omega)).mono ?_
  rintro e w' ⟨cv', rfl, hd, hk, ha⟩
  have hk' : Kept (Foot d mb mp cv) W w' := hk.mono (fun k _ e => by rcases e with e | e | e; exact .inl e; exact .inr (.inl e); exact .inr (.inr (.inl e)))
  refine ⟨rfl, cv', H.dev hd hk' (fun k e => ?_)⟩
  rcases ha with rfl | rfl
  · exact .inl e
  · simp [Value.ownBlock] at e
theorem ph_rflush (H : PH w0 w F oc p d mb mp x bv W cv lv kv s r) (hn : r.laid.length + r.cache.length ≤ 1200000) : Calls Try.prog 14 #[.pointer (some ⟨x, 0, none⟩)] W fun e w' => e = .returned (.int .i64 (flR r).2) ∧ ∃ lv' kv', PH w0 w F oc p d mb mp x bv w' cv lv' kv' s (flR r).1 := by
  refine (rflush_any H.mem.rd H.bel.size (by omega)).mono ?_
  rintro e w' ⟨rfl, hl⟩
  exact ⟨rfl, Ph.ref H hl⟩
theorem ph_arm (H : PH w0 w F oc p d mb mp x bv W cv lv kv s r) (k : Int) : Calls Try.prog 15 #[.pointer (some ⟨d, 0, none⟩), .int .i64 k] W fun e w' => e = .returned (.int .i64 (armD s k).2) ∧ PH w0 w F oc p d mb mp x bv w' cv lv kv (armD s k).1 r := by
  refine (arm_any H.mem.dv k).mono ?_
  rintro e w' ⟨rfl, hd, hk⟩
  exact ⟨rfl, H.dev hd (hk.mono (fun _ _ e => .inl e)) (fun k e => .inl e)⟩
theorem ph_rarm (H : PH w0 w F oc p d mb mp x bv W cv lv kv s r) (k : Int) : Calls Try.prog 16 #[.pointer (some ⟨x, 0, none⟩), .int .i64 k] W fun e w' => e = .returned (.int .i64 (armR r k).2) ∧ ∃ lv' kv', PH w0 w F oc p d mb mp x bv w' cv lv' kv' s (armR r k).1 := by
  refine (rarm_any H.mem.rd k).mono ?_
  rintro e w' ⟨rfl, hd, hk⟩
  exact ⟨rfl, H.ref (RL.self hd hk)⟩
theorem ph_crash (H : PH w0 w F oc p d mb mp x bv W cv lv kv s r) (hn : s.ws ≤ 1200000) {B' : Nat} {v : Value} {fs : List (Int × Int)} (ho : W.ownsRow B' 49 2 v fs.length (cellsF fs)) : Calls Try.prog 17 #[.pointer (some ⟨d, 0, none⟩), v] W fun e w' => e = .returned (.int .i64 (cnts (fateAt fs) 0 s.cache)) ∧ PH w0 w F oc p d mb mp x bv w' (.slice none 0 0) lv kv (crD s fs) r ∧ RK W w' := by
  refine (crash_any H.mem.dv (by omega) v fs (fun w' hk => fts_own (row_kept ho hk (fun g hg e => foot_ne H.mem.dv ho (by decide) (by decide) (by decide) g hg (.inr (.inl e)))))).mono ?_
  rintro e w' ⟨rfl, hd, hk⟩
  have hk' : Kept (Foot d mb mp cv) W w' := hk.mono (fun k _ e => by rcases e with e | e | e; exact .inl e; exact .inr (.inl e); exact .inr (.inr (.inl e)))
  exact ⟨rfl, H.dev hd hk' (fun k e => by simp [Value.ownBlock] at e), RK.dev H.mem.dv hk'⟩
theorem ph_rcrash (H : PH w0 w F oc p d mb mp x bv W cv lv kv s r) (hn : r.laid.length + r.cache.length ≤ 1200000) (h5 : ∀ y ∈ r.cache, y.l.length = 512) {v : Value} {fs : List (Int × Int)} (hv : Fts w0 v fs) : Calls Try.prog 18 #[.pointer (some ⟨x, 0, none⟩), v] W fun e w' => e = .returned (.int .i64 (crN fs r.cache : Int)) ∧ (∃ lv' kv', PH w0 w F oc p d mb mp x bv w' cv lv' kv' s (crR r fs)) ∧ RK W w' := by
  refine (rcrash_any H.mem.rd H.bel.size (by omega) h5 v fs (fun w' hk => hv.below (H.bel.trans (hk.below H.bel.size (fun k e => (H.mem.rd.foot_lt k e).1))))).mono ?_
  rintro e w' ⟨rfl, hl⟩
  refine ⟨rfl, Ph.ref H hl, ?_⟩
  obtain ⟨_, _, _, hk, _⟩ := hl
  exact RK.ref H.mem.rd hk
theorem ph_edit (H : PH w0 w F oc p d mb mp x bv W cv lv kv s r) (i a : Int) {v : Value} {l : List UInt8} (hv : Bytes W v l) : Calls Try.prog 19 #[.pointer (some ⟨d, 0, none⟩), .int .i64 i, .int .i64 a, v] W fun e w' => e = .returned (.int .i64 (edD s i a l).2) ∧ PH w0 w F oc p d mb mp x bv w' cv lv kv (edD s i a l).1 r ∧ RK W w' := by
  refine (edit_any H.mem.dv i a v l hv).mono ?_
  rintro e w' ⟨rfl, hd, hk⟩
  have hk' : Kept (Foot d mb mp cv) W w' := hk.mono (fun _ _ e => .inr (.inl e))
  exact ⟨rfl, H.dev hd hk' (fun k e => .inl e), RK.dev H.mem.dv hk'⟩
theorem ph_redit (H : PH w0 w F oc p d mb mp x bv W cv lv kv s r) (hn : r.laid.length + r.cache.length ≤ 1200000) (i a : Int) {v : Value} {l : List UInt8} (hv : Bytes W v l) : Calls Try.prog 20 #[.pointer (some ⟨x, 0, none⟩), .int .i64 i, .int .i64 a, v] W fun e w' => ∃ y : Ly, e = .returned (.int .i64 (edR r i a l y).2) ∧ (∃ lv' kv', PH w0 w F oc p d mb mp x bv w' cv lv' kv' s (edR r i a l y).1) ∧ (y.b = i.toNat ∧ y.a = a.toNat ∧ y.l = l) ∧ RK W w' := by
  refine (redit_any H.mem.rd H.bel.size i a v l hv (by omega)).mono ?_
  rintro e w' ⟨y, rfl, hl, h1, h2, h3⟩
  refine ⟨y, rfl, Ph.ref H hl, ⟨h1, h2, h3⟩, ?_⟩
  obtain ⟨_, _, _, hk, _⟩ := hl
  exact RK.ref H.mem.rd hk
end Rf
end Go.Proofs.Ytojemioophlplaa
