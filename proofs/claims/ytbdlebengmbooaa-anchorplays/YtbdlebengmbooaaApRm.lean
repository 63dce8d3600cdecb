/-
  ApA, ApR, AnRd, ApRd, joined.
-/
import Derived.Test.YtbdlebengmbooaaRfZ
import Derived.Test.YtbdlebengmbooaaAnR
import Derived.Test.YtbdlebengmbooaaArM
import Derived.Deep.RegionHeld3
import Derived.BigQuiet
import Derived.Lib.QuietBelow
import Derived.Deep.MidRow
import Derived.RegionTactic
import Derived.BigRegion
section S0
namespace Go.Proofs.Ytbdlebengmbooaa
open Go.RowKit Go.Maps Go.Sort
namespace Rf
variable {B : Nat} {w W W' : World} {x : Nat} {bv lv kv : Value} {ds t : DS} {r r' : RD} {gr gn m : Nat} {s : Sup}
theorem x_ty (h : Rd B W x bv lv kv r) {g : Nat} {cs : Array Value} {ty : TypeId} {fr : Nat × Nat} (hg : W.heap[g]? = some (.cells cs ty fr)) (h1 : ty ≠ 65) : g ≠ x := fun e => by
  rw [e, h.self] at hg
  simp only [Option.some.injEq, Obj.cells.injEq] at hg
  exact h1 hg.2.1.symm
/-- In Read: the answer's box, the best one's, the device, so many blocks read. -/
structure Rq (B : Nat) (w W : World) (x : Nat) (bv lv kv : Value) (gr gn : Nat) (t : DS) (r : RD) (s : Sup) (m : Nat) : Prop where
  n : W.heap[gn]? = some (.cells s.arr 34 (0, 0))
  rr : W.heap[gr]? = some (.cells zeroS.arr 34 (0, 0))
  rd : Rd B W x bv lv kv r
  rel : Rel t r
  kp : Kept (fun k => k = x) w W
  ne : gr ≠ gn ∧ w.heap.size ≤ gr ∧ w.heap.size ≤ gn
  ln : r.laid.length + r.cache.length = m
theorem Rq.below (h : Rq B w W x bv lv kv gr gn t r s m) (hb : Below W.heap.size W W') : Rq B w W' x bv lv kv gr gn t r s m :=
  ⟨by rw [hb.block _ (lt_of_heap h.n)]; exact h.n, by rw [hb.block _ (lt_of_heap h.rr)]; exact h.rr, h.rd.below hb, h.rel, h.kp.trans (Below.kept hb (fun _ => False)) (fun _ _ e => e.elim), h.ne, h.ln⟩
theorem set_rd (h : Rd B W x bv lv kv r) {g : Nat} {cs : Array Value} (hg : W.heap[g]? = some (.cells cs 34 (0, 0))) (hk : Kept (fun k => k = g) W W') : Rd B W' x bv lv kv r := by
  refine h.kept hk (fun k e f => ?_) (fun v l ho k e f => ?_)
  · rw [f] at e
    rcases e with q | q | q
    · exact x_ty h hg (by decide) q
    · obtain ⟨c2, mm, h2⟩ := h.laid.ty g q
      rw [hg] at h2
      simp only [Option.some.injEq, Obj.cells.injEq] at h2
      exact absurd h2.2.1 (by decide)
    · obtain ⟨c2, mm, h2⟩ := h.cache.ty g q
      rw [hg] at h2
      simp only [Option.some.injEq, Obj.cells.injEq] at h2
      exact absurd h2.2.1 (by decide)
  · obtain ⟨cur, h2⟩ := row_block ho e
    rw [f, hg] at h2
    simp only [Option.some.injEq, Obj.cells.injEq] at h2
    exact absurd h2.2.1 (by decide)
theorem Rq.best (h : Rq B w W x bv lv kv gr gn t r s m) (s' : Sup) : Rq B w (W.setRow gn s'.arr) x bv lv kv gr gn t r s' m := by
  have hk := kept_setRow W gn s'.arr
  exact ⟨setRow_heap _ _ _ _ _ _ h.n, by rw [setRow_other _ _ _ _ h.ne.1]; exact h.rr, set_rd h.rd h.n hk, h.rel, h.kp.trans hk (fun k hk1 e => by have := h.ne.2.2; omega), h.ne, h.ln⟩
theorem Rq.fill (h : Rq B w W x bv lv kv gr gn t r s m) (s' : Sup) : (W.setRow gr s'.arr).heap[gr]? = some (.cells s'.arr 34 (0, 0)) ∧ Rd B (W.setRow gr s'.arr) x bv lv kv r ∧ Kept (fun k => k = x) w (W.setRow gr s'.arr) := by
  have hk := kept_setRow W gr s'.arr
  exact ⟨setRow_heap _ _ _ _ _ _ h.rr, set_rd h.rd h.rr hk, h.kp.trans hk (fun k hk1 e => by have := h.ne.2.1; omega)⟩
theorem rread_keeps (r : RD) (i : Int) : (rrd r i).1.laid = r.laid ∧ (rrd r i).1.cache = r.cache := by
  unfold rrd
  split
  · exact ⟨rfl, rfl⟩
  · split <;> exact ⟨rfl, rfl⟩
theorem rd_atR (hup : ds.down = false) (hfit : Fit ds) {k : Nat} (hk : k < 2) (h : Rq B w W x bv lv kv gr gn (rdk ds k) r s m) :
    Calls Try.prog 44 #[.pointer (some ⟨x, 0, none⟩), .int .i64 (k : Int)] W fun e w' => ∃ a c, e = .returned (.tuple #[.slice a 512 c, .int .i64 0]) ∧ Own W.heap.size w' (.slice a 512 c) (rdB ds k) ∧ ∃ r', Rq B w w' x bv lv kv gr gn (rdk ds (k + 1)) r' s m := by
  have hn : k < (rdk ds k).n := by rw [(rdk_same ds k k).2]; have := hfit.lo; omega
  have e := rdD_ok (rdk_down hup k) k hn
  have SS := read_same h.rel (k : Int)
  have KE := rread_keeps r (k : Int)
  refine (rread_any h.rd (k : Int)).mono ?_
  rintro e' w' ⟨v, rfl, ho, hd, hk2⟩
  rw [e] at SS
  have s1 : (rrd r (k : Int)).2.1 = rdB ds k := by rw [SS.1]; exact (rdk_same ds k k).1
  have s2 : (rrd r (k : Int)).2.2 = 0 := by rw [SS.1]
  rw [s1] at ho
  rw [s2]
  obtain ⟨a, c, rfl⟩ := own_slice ho
  have l5 : (rdB ds k).length = 512 := rdB_length hfit k (by have := hfit.lo; omega)
  rw [l5] at ho ⊢
  refine ⟨a, c, rfl, ho, (rrd r (k : Int)).1, ?_⟩
  exact ⟨by rw [hk2.block _ (lt_of_heap h.n) (x_ty h.rd h.n (by decide))]; exact h.n, by rw [hk2.block _ (lt_of_heap h.rr) (x_ty h.rd h.rr (by decide))]; exact h.rr, hd, SS.2, h.kp.trans hk2 (fun _ _ e => e), h.ne, by rw [KE.1, KE.2]; exact h.ln⟩
theorem dec_va (b : List UInt8) (h : (decR b).2 = 0) : vaB (decR b).1 (decR b).1.blk = true := by
  unfold decR at h ⊢
  split
  · rename_i h1; rw [if_pos h1] at h; exact absurd h (by decide)
  · rename_i h1
    rw [if_neg h1] at h
    split
    · rename_i h2; exact h2.1
    · rename_i h2; rw [if_neg h2] at h; exact absurd h (by decide)
end Rf
end Go.Proofs.Ytbdlebengmbooaa
end S0

section S1
namespace Go.Proofs.Ytbdlebengmbooaa
open Go.RowKit Go.Maps Go.Sort
namespace Rf
variable {B : Nat} {w : World} {x : Nat} {bv lv kv : Value} {ds : DS} {r : RD}
/-- Read's end: the answer's box may be filled. -/
structure Zq (B : Nat) (w W : World) (x : Nat) (bv lv kv : Value) (gr gn : Nat) (r : RD) (s : Sup) : Prop where
  n : W.heap[gn]? = some (.cells s.arr 34 (0, 0))
  rr : ∃ z : Sup, W.heap[gr]? = some (.cells z.arr 34 (0, 0))
  rd : Rd B W x bv lv kv r
  kp : Kept (fun k => k = x) w W
  ne : gr ≠ gn ∧ w.heap.size ≤ gr
theorem Rq.zq {W : World} {gr gn m : Nat} {t : DS} {s : Sup} (h : Rq B w W x bv lv kv gr gn t r s m) : Zq B w W x bv lv kv gr gn r s := ⟨h.n, ⟨_, h.rr⟩, h.rd, h.kp, h.ne.1, h.ne.2.1⟩
theorem Zq.below {W W' : World} {gr gn : Nat} {s : Sup} (h : Zq B w W x bv lv kv gr gn r s) (hb : Below W.heap.size W W') : Zq B w W' x bv lv kv gr gn r s := by
  obtain ⟨h1, ⟨z, h2⟩, h3, h4, h5⟩ := h
  exact ⟨by rw [hb.block _ (lt_of_heap h1)]; exact h1, ⟨z, by rw [hb.block _ (lt_of_heap h2)]; exact h2⟩, h3.below hb, h4.trans (Below.kept hb (fun k => k = x)) (fun _ _ q => q), h5⟩
theorem Zq.drew {W : World} {gr gn : Nat} {s : Sup} (h : Zq B w W x bv lv kv gr gn r s) : Zq B w W.drew x bv lv kv gr gn r s := h.below ⟨rfl, rfl, rfl, Nat.le_refl _, fun _ _ => rfl⟩
theorem Zq.range {W : World} {gr gn : Nat} {s : Sup} (h : Zq B w W x bv lv kv gr gn r s) : W.rangeAt gn 0 s.arr.toList ∧ W.there gr 0 9 := by
  obtain ⟨h1, ⟨z, h2⟩, _, _, _⟩ := h
  refine ⟨?_, fun j hj => ⟨?_, frozen_of_row _ _ _ _ _ h2⟩⟩
  · intro j v hv
    rw [Nat.zero_add, cell_of_row W gn j _ _ _ h1]
    simpa using hv
  · have hz : z.arr.size = 9 := rfl
    rw [Nat.zero_add, cell_of_row W gr j _ _ _ h2, Array.getElem?_eq_getElem (by omega)]
    rfl
theorem Zq.store {W : World} {gr gn : Nat} {s : Sup} (h : Zq B w W x bv lv kv gr gn r s) : Zq B w (W.setCells gr 0 s.arr.toList) x bv lv kv gr gn r s ∧ (W.setCells gr 0 s.arr.toList).heap[gr]? = some (.cells s.arr 34 (0, 0)) := by
  obtain ⟨h1, ⟨z, h2⟩, h3, h4, h5⟩ := h
  have hk := kept_setCells gr s.arr.toList 0 W
  have e : (W.setCells gr 0 s.arr.toList).heap[gr]? = some (.cells s.arr 34 (0, 0)) := by
    rw [setCells_heap gr _ _ 0 W _ h2]
    rfl
  exact ⟨⟨by rw [hk.block _ (lt_of_heap h1) h5.1.symm]; exact h1, ⟨s, e⟩, set_rd h3 h2 hk, h4.trans hk (fun x hx q => by have := h5.2; omega), h5⟩, e⟩
set_option maxRecDepth 100000 in
set_option maxHeartbeats 16000000 in
theorem rread_up (h : Rd B w x bv lv kv r) (hrel0 : Rel ds r) (hfit : Fit ds) (hdn : ds.down = false) : Calls Try.prog 18 #[.pointer (some ⟨x, 0, none⟩)] w fun e w' => e = .returned (.tuple #[.agg (readU ds).1.arr, .int .i64 (readU ds).2.1, .int .i64 (readU ds).2.2]) ∧ ∃ r', Rd B w' x bv lv kv r' ∧ Rel (rdk ds 2) r' ∧ Kept (fun k => k = x) w w' ∧ r'.laid.length + r'.cache.length = r.laid.length + r.cache.length := by
  obtain ⟨mm, hmm⟩ : ∃ m, m = r.laid.length + r.cache.length := ⟨_, rfl⟩
  rw [← hmm]
  obtain ⟨RR, hRR⟩ : ∃ RR, RR = readU ds := ⟨_, rfl⟩
  rw [← hRR]
  have HR := Lib.hid hRR
  clear hRR
  obtain ⟨X1, hX1⟩ : ∃ X, X = w.alloc (.cells #[.int .i64 0, .int .i64 0, .int .i64 0, .int .i64 0, .int .i64 0, .int .i64 0, .int .i64 0, .int .i64 0, .int .i64 0] 34) := ⟨_, rfl⟩
  obtain ⟨gr, hgr⟩ : ∃ g, g = w.heap.size := ⟨_, rfl⟩
  obtain ⟨X, hX⟩ : ∃ X, X = X1.alloc (.cells #[.int .i64 0, .int .i64 0, .int .i64 0, .int .i64 0, .int .i64 0, .int .i64 0, .int .i64 0, .int .i64 0, .int .i64 0] 34) := ⟨_, rfl⟩
  obtain ⟨gn, hgn⟩ : ∃ g, g = X1.heap.size := ⟨_, rfl⟩
  have dlt := (h.foot_lt x (.inl rfl)).2
  have s1 : gn = gr + 1 := by rw [hgn, hX1, hgr]; simp
  have R0 : Hid (Rq B w X x bv lv kv gr gn (rdk ds 0) r (bst ds 0) mm) := Lib.hid (by
    have b1 : Below w.heap.size w X1 := by rw [hX1]; exact (Below.refl _ _).alloc (Nat.le_refl _) _
    have b2 : Below w.heap.size w X := by rw [hX]; exact b1.alloc b1.size _
    have e1 : X1.heap[gr]? = some (.cells zeroS.arr 34 (0, 0)) := by rw [hgr, hX1]; exact heap_alloc_new _ _
    refine ⟨by rw [hX, hgn]; exact heap_alloc_new _ _, ?_, h.below b2, hrel0, Below.kept b2 _, ⟨by omega, by omega, by omega⟩, hmm.symm⟩
    rw [hX, Below.heap_alloc _ _ _ (by rw [← hgn]; omega)]
    exact e1)
  have hX1' := hX1.symm
  have hX' := hX.symm
  have hgr' := hgr.symm
  have hgn' := hgn.symm
  have HD := Lib.hid (And.intro hdn hfit)
  clear hX1 hX hgr hgn h dlt s1 hdn hfit hrel0 hmm
  go_enter Try.func18, Try.ntmps18
  go_wp2_with (first | (refine wpList_store_row rfl 34 (.tmp 5) (.tmp 14) rfl gn zeroS.arr rfl rfl 34 zeroS.arr R0.out.n size_super rfl (arr_one _) ?_))
  have R1 := Lib.hid (R0.out.best zeroS)
  clear hX1' hX' hgr' hgn' R0
  go_loopg [6, 7, 8, 9, 10] 2 (fun gg s6 s7 s8 s9 si wr => ∃ (k : Nat) (r1 : RD), k ≤ 2 ∧ gg = 2 - k ∧ s6 = .int .i64 k ∧ Rq B w wr x bv lv kv gr gn (rdk ds k) r1 (bst ds k) mm)
  case atStart => exact ⟨0, r, by omega, rfl, rfl, R1.out⟩
  case round =>
    obtain ⟨k, r1, hk, hgk, rfl, hrs⟩ := hrel
    have G : Aside (gk = 2 - k) := hgk
    have RS := Lib.hid hrs
    clear hgk hrs R1
    by_cases hlt : k < 2
    · have hlt' : (k : Int) < 2 := by omega
      have dlt : decide ((k : Int) < 2) = true := decide_eq_true hlt'
      have dln : decide (k < 2) = true := decide_eq_true hlt
      obtain ⟨⟨⟨xgen, xep, xblk, xlog, xst, xpl, xrt, xcnt, xver⟩, c9⟩, hdec⟩ : ∃ r, r = decR (rdB ds k) := ⟨_, rfl⟩
      obtain ⟨bb, hbb⟩ : ∃ b, b = rdB ds k := ⟨_, rfl⟩
      have DC : Hid (∀ W v, Bytes W v bb → Calls Try.prog 45 #[v] W fun e w' => e = .returned (.tuple #[.agg #[.int .i64 xgen, .int .i64 xep, .int .i64 xblk, .int .i64 xlog, .int .i64 xst, .int .i64 xpl, .int .i64 xrt, .int .i64 xcnt, .int .i64 xver], .int .i64 c9]) ∧ Below W.heap.size W w') := Lib.hid (fun W v hv => by have := rdec_any v _ W hv; rw [hbb, ← hdec] at this; exact this)
      have VA : Hid (c9 = 0 → vaB (Sup.mk xgen xep xblk xlog xst xpl xrt xcnt xver) xblk = true) := Lib.hid (fun hc => by have := dec_va (rdB ds k); rw [← hdec] at this; exact this hc)
      have RD := Lib.hid (rd_atR HD.out.1 HD.out.2 hlt RS.out)
      rw [← hbb] at RD
      obtain ⟨best, hbest⟩ : ∃ b, b = bst ds k := ⟨_, rfl⟩
      have NX : Hid (bst ds (k + 1) = pickA ds.n k ((Sup.mk xgen xep xblk xlog xst xpl xrt xcnt xver), c9) best) := Lib.hid (by rw [bst, ← hdec, ← hbest])
      rw [← hbest] at RD
      obtain ⟨bg, hbg⟩ : ∃ b, b = best.gen := ⟨_, rfl⟩
      have BG := Lib.hid hbg
      clear hdec hbb hbest hbg RS
      go_wp2_with fail
      refine RD.out.mono ?_
      rintro e w2 ⟨a7, c7, rfl, ho, r2, h2⟩
      have D2 := Lib.hid (DC.out _ _ ho.bytes)
      have R2 := Lib.hid h2
      clear ho h2 RD DC
      go_wp2_with fail
      refine D2.out.mono ?_
      rintro e w3 ⟨rfl, b3⟩
      obtain ⟨Y, hY⟩ : ∃ Y, Y = w3.alloc (.cells #[.int .i64 xgen, .int .i64 xep, .int .i64 xblk, .int .i64 xlog, .int .i64 xst, .int .i64 xpl, .int .i64 xrt, .int .i64 xcnt, .int .i64 xver] 34) := ⟨_, rfl⟩
      obtain ⟨g9, hg9⟩ : ∃ g, g = w3.heap.size := ⟨_, rfl⟩
      have GY : Y.heap[g9]? = some (.cells (Sup.mk xgen xep xblk xlog xst xpl xrt xcnt xver).arr 34 (0, 0)) := by rw [hY, hg9]; exact heap_alloc_new _ _
      have RY : Hid (Rq B w Y x bv lv kv gr gn (rdk ds (k + 1)) r2 best mm) := Lib.hid ((R2.out.below b3).below (by rw [hY]; exact (Below.refl _ _).alloc (Nat.le_refl _) _))
      obtain ⟨y0, y1, y2, y3, y4, y5, y6, y7, y8⟩ := sup_cells GY
      have yb : Y.cell? ⟨gn, 0, none⟩ = some (.int .i64 bg) := by rw [BG.out]; exact (sup_cells RY.out.n).1
      simp only at y0 y1 y2 y3 y4 y5 y6 y7 y8
      have r0 : ∀ (dq : Nat) (os : Array Obj), (grow (redrawn Y dq) os).cell? ⟨g9, 0, none⟩ = some (.int .i64 xgen) := fun dq os => cell_regrown y0 dq os
      have r2q : ∀ (dq : Nat) (os : Array Obj), (grow (redrawn Y dq) os).cell? ⟨g9, 2, none⟩ = some (.int .i64 xblk) := fun dq os => cell_regrown y2 dq os
      have rb : ∀ (dq : Nat) (os : Array Obj), (grow (redrawn Y dq) os).cell? ⟨gn, 0, none⟩ = some (.int .i64 bg) := fun dq os => cell_regrown yb dq os
      have xB : Hid (∀ (dq : Nat) (os : Array Obj), Below Y.heap.size Y (grow (redrawn Y dq) os)) := fun dq os => below_regrown Y dq os
      obtain ⟨nn, hnn⟩ : ∃ n, n = ds.n := ⟨_, rfl⟩
      have qB : Hid (∀ (dq : Nat) (os : Array Obj), Calls Try.prog 33 #[.pointer (some ⟨x, 0, none⟩)] (grow (redrawn Y dq) os) fun e w'' => e = .returned (.int .i64 (nn : Int)) ∧ ∃ p : Regrown, w'' = grow (redrawn Y p.d) p.os) := fun dq os => by
        refine (rblocks_any (RY.out.rd.below (xB.out dq os))).mono ?_
        rintro e w' ⟨rfl, rfl⟩
        exact ⟨by rw [RY.out.rel.n, (rdk_same ds (k + 1) 0).2, hnn], ⟨dq, os⟩, rfl⟩
      have NX' : Hid (bst ds (k + 1) = pickA nn k ((Sup.mk xgen xep xblk xlog xst xpl xrt xcnt xver), c9) best) := by rw [hnn]; exact NX
      have GG := Lib.hid GY
      have hY' := hY.symm
      have hg9' := hg9.symm
      clear hY hg9 GY b3 D2 R2 hnn NX
      by_cases hc : c9 = 0
      case neg =>
        have fc : (c9 == 0) = false := by rw [beq_eq_false_iff_ne]; exact hc
        have NO : Hid (bst ds (k + 1) = best) := Lib.hid (by rw [NX'.out]; unfold pickA; rw [if_neg (by simp only; rintro ⟨h1, _⟩; exact hc h1)])
        clear hc VA
        go_wp2_with fail
        refine wp_region_quiet_below (by kernel_rfl) (by kernel_rfl) ?_
        repeat (go_big_quiet_step (first | with_reducible exact qB.out _ _))
        refine wpQuiet_nil ?_
        intro _ hw'
        obtain ⟨⟨dq, osq⟩, hw''⟩ := hw'
        subst hw''
        go_wp2_with fail
        go_roundg (2 - (k + 1))
        case measure => have := G.out; omega
        case rel => exact ⟨k + 1, r2, by omega, rfl, by go_num, by rw [NO.out]; exact RY.out.below (xB.out dq osq)⟩
      have VA' := VA.out hc
      subst hc
      by_cases hb2 : xblk = (nn : Int)
      case neg =>
        have fb : (xblk == (nn : Int)) = false := by rw [beq_eq_false_iff_ne]; exact hb2
        have NO : Hid (bst ds (k + 1) = best) := Lib.hid (by rw [NX'.out]; unfold pickA; rw [if_neg (by simp only; rintro ⟨_, h1, _⟩; exact hb2 (va_gen h1).2)])
        clear hb2 VA VA'
        go_wp2_with fail
        refine wp_region_quiet_below (by kernel_rfl) (by kernel_rfl) ?_
        repeat (go_big_quiet_step (first | with_reducible exact qB.out _ _))
        refine wpQuiet_nil ?_
        intro _ hw'
        obtain ⟨⟨dq, osq⟩, hw''⟩ := hw'
        subst hw''
        go_wp2_with fail
        go_roundg (2 - (k + 1))
        case measure => have := G.out; omega
        case rel => exact ⟨k + 1, r2, by omega, rfl, by go_num, by rw [NO.out]; exact RY.out.below (xB.out dq osq)⟩
      have fb : (xblk == (nn : Int)) = true := by rw [beq_iff_eq]; exact hb2
      have hva : vaB (Sup.mk xgen xep xblk xlog xst xpl xrt xcnt xver) (nn : Int) = true := by rw [← hb2]; exact VA'
      have g1 : 1 ≤ xgen := (va_gen hva).1
      have hm : xgen.tmod 2 = xgen % 2 := Int.tmod_eq_emod_of_nonneg (by omega)
      clear VA VA' hb2
      by_cases hh : xgen % 2 = (k : Int)
      case neg =>
        have fh : (xgen % 2 == (k : Int)) = false := by rw [beq_eq_false_iff_ne]; exact hh
        have fh' : (xgen.tmod 2 == (k : Int)) = false := by rw [hm]; exact fh
        have NO : Hid (bst ds (k + 1) = best) := Lib.hid (by rw [NX'.out]; unfold pickA; rw [if_neg (by simp only; rintro ⟨_, _, h1, _⟩; exact hh h1)])
        clear hva hh hm g1
        go_wp2_with fail
        refine wp_region_quiet_below (by kernel_rfl) (by kernel_rfl) ?_
        repeat (go_big_quiet_step (first | with_reducible exact qB.out _ _))
        refine wpQuiet_nil ?_
        intro _ hw'
        obtain ⟨⟨dq, osq⟩, hw''⟩ := hw'
        subst hw''
        go_wp2_with fail
        go_roundg (2 - (k + 1))
        case measure => have := G.out; omega
        case rel => exact ⟨k + 1, r2, by omega, rfl, by go_num, by rw [NO.out]; exact RY.out.below (xB.out dq osq)⟩
      have fh : (xgen % 2 == (k : Int)) = true := by rw [beq_iff_eq]; exact hh
      have fh' : (xgen.tmod 2 == (k : Int)) = true := by rw [hm]; exact fh
      by_cases hg : xgen > bg
      case neg =>
        have fg : decide (xgen > bg) = false := decide_eq_false hg
        have NO : Hid (bst ds (k + 1) = best) := Lib.hid (by rw [NX'.out]; unfold pickA; rw [if_neg (by simp only; rintro ⟨_, _, _, h1⟩; rw [← BG.out] at h1; exact hg h1)])
        clear hva hh hg hm g1
        go_wp2_with fail
        refine wp_region_quiet_below (by kernel_rfl) (by kernel_rfl) ?_
        repeat (go_big_quiet_step (first | with_reducible exact qB.out _ _))
        refine wpQuiet_nil ?_
        intro _ hw'
        obtain ⟨⟨dq, osq⟩, hw''⟩ := hw'
        subst hw''
        go_wp2_with fail
        go_roundg (2 - (k + 1))
        case measure => have := G.out; omega
        case rel => exact ⟨k + 1, r2, by omega, rfl, by go_num, by rw [NO.out]; exact RY.out.below (xB.out dq osq)⟩
      have fg : decide (xgen > bg) = true := decide_eq_true hg
      have YES : Hid (bst ds (k + 1) = (Sup.mk xgen xep xblk xlog xst xpl xrt xcnt xver)) := Lib.hid (by rw [NX'.out]; unfold pickA; rw [if_pos ⟨rfl, hva, hh, by rw [← BG.out]; exact hg⟩])
      clear hva hh hg hm g1
      go_wp2_with fail
      refine wp_region_quiet_below (by kernel_rfl) (by kernel_rfl) ?_
      repeat (go_big_quiet_step (first | with_reducible exact qB.out _ _))
      refine wpQuiet_nil ?_
      intro _ hw'
      obtain ⟨⟨dq, osq⟩, hw''⟩ := hw'
      subst hw''
      have R5 := Lib.hid (RY.out.below (xB.out dq osq))
      have G5 : Hid ((grow (redrawn Y dq) osq).heap[g9]? = some (.cells (Sup.mk xgen xep xblk xlog xst xpl xrt xcnt xver).arr 34 (0, 0))) := Lib.hid (((xB.out dq osq).block g9 (lt_of_heap GG.out)).trans GG.out)
      obtain ⟨w5, hw5⟩ : ∃ W, W = grow (redrawn Y dq) osq := ⟨_, rfl⟩
      rw [← hw5] at R5 G5 ⊢
      clear hw5 qB r0 r2q rb y0 y1 y2 y3 y4 y5 y6 y7 y8 yb
      go_wp2_with (first | (refine wpList_load_row rfl 34 (.tmp 9) rfl g9 rfl 34 (Sup.mk xgen xep xblk xlog xst xpl xrt xcnt xver).arr (0, 0) _ G5.out Try.underlying34 rfl size_super ?_) | (refine wpList_store_row rfl 34 (.tmp 5) (.tmp 56) rfl gn (Sup.mk xgen xep xblk xlog xst xpl xrt xcnt xver).arr rfl rfl 34 best.arr R5.out.n size_super rfl (arr_one _) ?_))
      go_roundg (2 - (k + 1))
      case measure => have := G.out; omega
      case rel => exact ⟨k + 1, r2, by omega, rfl, by go_num, by rw [YES.out]; exact R5.out.best _⟩
    · have ek : k = 2 := by omega
      subst ek
      have hge : ¬ ((2 : Nat) : Int) < 2 := by omega
      clear hlt hk
      obtain ⟨⟨xgen, xep, xblk, xlog, xst, xpl, xrt, xcnt, xver⟩, hb⟩ : ∃ b, b = bst ds 2 := ⟨_, rfl⟩
      rw [← hb] at RS
      have HB := Lib.hid hb
      have GE : Hid (0 ≤ xgen) := Lib.hid (by have := bst_gen ds 2; rw [← hb] at this; exact this)
      obtain ⟨y0, y1, y2, y3, y4, y5, y6, y7, y8⟩ := sup_cells RS.out.n
      simp only at y0 y1 y2 y3 y4 y5 y6 y7 y8
      clear hb
      by_cases hz : xgen = 0
      · have ez : (xgen == 0) = true := by rw [beq_iff_eq]; exact hz
        have HE : Hid (RR = (zeroS, 0, 5)) := Lib.hid (by rw [HR.out]; unfold readU; rw [← HB.out, if_pos hz])
        clear HB hz HR GE
        go_wp2_with (first | (refine wpList_store_row rfl 34 (.tmp 2) (.tmp 60) rfl gr zeroS.arr rfl rfl 34 zeroS.arr RS.out.rr size_super rfl (arr_one _) ?_))
        rw [HE.out]
        obtain ⟨q1, q2, q3⟩ := RS.out.fill zeroS
        exact bodyPost_ret (results_cell2 rfl _ _ ⟨gr, 0, none⟩ (.agg zeroS.arr) rfl (load_super _ _ zeroS q1)) rfl ⟨rfl, r1, q2, RS.out.rel, q3, RS.out.ln⟩
      · have ez : (xgen == 0) = false := by rw [beq_eq_false_iff_ne]; exact hz
        have HE : Hid (RR = ((Sup.mk xgen xep xblk xlog xst xpl xrt xcnt xver), xgen.tmod 2, 0)) := Lib.hid (by rw [HR.out, Int.tmod_eq_emod_of_nonneg GE.out]; unfold readU; rw [← HB.out, if_neg hz])
        clear HB hz HR
        go_wp2_with fail
        obtain ⟨L, hL⟩ : ∃ L, L = (Sup.mk xgen xep xblk xlog xst xpl xrt xcnt xver).arr.toList := ⟨_, rfl⟩
        have hu := Try.underlying34
        have hi : (Try.prog.info? 34).map (·.size) = some L.length := by rw [hL]; exact size_super
        have hl9 : L.length = 9 := by rw [hL]; rfl
        have h1L : ∀ v ∈ L, v.oneCell' = true := by rw [hL]; intro v hv; simp only [Sup.arr, List.mem_cons, List.not_mem_nil, or_false] at hv; rcases hv with rfl | rfl | rfl | rfl | rfl | rfl | rfl | rfl | rfl <;> rfl
        have Z0 := Lib.hid RS.out.zq.drew
        have RG : Hid (∀ W, Zq B w W x bv lv kv gr gn r1 (Sup.mk xgen xep xblk xlog xst xpl xrt xcnt xver) → W.rangeAt gn 0 L ∧ W.there gr 0 9) := Lib.hid (fun W h => by rw [hL]; exact h.range)
        have CE : Hid (∀ W, Zq B w W x bv lv kv gr gn r1 (Sup.mk xgen xep xblk xlog xst xpl xrt xcnt xver) → W.cell? ⟨gn, 0, none⟩ = some (.int .i64 xgen)) := Lib.hid (fun W h => (sup_cells h.n).1)
        have ST : Hid (∀ W, Zq B w W x bv lv kv gr gn r1 (Sup.mk xgen xep xblk xlog xst xpl xrt xcnt xver) → Zq B w (W.setCells gr 0 L) x bv lv kv gr gn r1 (Sup.mk xgen xep xblk xlog xst xpl xrt xcnt xver) ∧ (W.setCells gr 0 L).heap[gr]? = some (.cells (Sup.mk xgen xep xblk xlog xst xpl xrt xcnt xver).arr 34 (0, 0))) := Lib.hid (fun W h => by rw [hL]; exact h.store)
        have RL1 : Hid (Rel (rdk ds 2) r1 ∧ r1.laid.length + r1.cache.length = mm) := Lib.hid ⟨RS.out.rel, RS.out.ln⟩
        clear hL y0 y1 y2 y3 y4 y5 y6 y7 y8 RS GE
        have ONE : L.toArray.all (·.oneCell') = true := by rw [Array.all_eq_true_iff_forall_mem]; intro v hv; exact h1L v (by simpa using hv)
        have PU : Hid (∀ W, Zq B w W x bv lv kv gr gn r1 (Sup.mk xgen xep xblk xlog xst xpl xrt xcnt xver) → (Instr.storeAt 34 (.pointer (some ⟨gr, 0, none⟩)) (.agg L.toArray)).run Try.prog W = .ok () (W.setCells gr 0 L)) := Lib.hid (fun W h => by
          have q := run_storeAt_mid (P := Try.prog) W gr 0 34 L.toArray (by rw [List.size_toArray, hl9]; exact (RG.out W h).2) (by rw [List.size_toArray]; exact hi) ONE
          simpa using q)
        have A0 : Hid (∀ W, Zq B w W x bv lv kv gr gn r1 (Sup.mk xgen xep xblk xlog xst xpl xrt xcnt xver) → W.rangeAt gn 0 L) := Lib.hid (fun W h => (RG.out W h).1)
        clear hl9 h1L ONE RG
        refine wp_region_held_drew (S := fun W => Zq B w W x bv lv kv gr gn r1 (Sup.mk xgen xep xblk xlog xst xpl xrt xcnt xver)) (by kernel_rfl) Z0.out (fun hHeld => ?_)
        refine takeH (i := 0) (t := 61) rfl rfl (by kernel_rfl) (by kernel_rfl) (by kernel_rfl) (fun _ _ _ h => h) (yieldsIf_load_mid (by rfl) _ _ rfl gn 0 rfl L _ (fun W h => A0.out W h) hu rfl hi) hHeld ?_
        simp only [Act.put, List.setIfInBounds_toArray, List.set_cons_zero, List.set_cons_succ]
        refine takeH (i := 1) (t := 62) (v := .pointer (some ⟨gn, 0, none⟩)) rfl rfl (by kernel_rfl) (by kernel_rfl) (by kernel_rfl) (fun _ _ _ h => h) (Or.inl ⟨by rfl, fun w hSw => by first | rfl | go_simp⟩) hHeld ?_
        simp only [Act.put, List.setIfInBounds_toArray, List.set_cons_zero, List.set_cons_succ]
        refine takeH (i := 2) (t := 63) (v := .int .i64 xgen) rfl rfl (by kernel_rfl) (by kernel_rfl) (by kernel_rfl) (fun _ _ _ h => h) (Or.inl ⟨by rfl, fun w hSw => by have q := CE.out w hSw; first | rfl | go_simp⟩) hHeld ?_
        simp only [Act.put, List.setIfInBounds_toArray, List.set_cons_zero, List.set_cons_succ]
        refine takeH (i := 3) (t := 64) (v := .int .i64 (xgen.tmod 2)) rfl rfl (by kernel_rfl) (by kernel_rfl) (by kernel_rfl) (fun _ _ _ h => h) (Or.inl ⟨by rfl, fun w hSw => by first | rfl | go_simp⟩) hHeld ?_
        simp only [Act.put, List.setIfInBounds_toArray, List.set_cons_zero, List.set_cons_succ]
        refine wpAnyH_ready (rs := [4]) (by kernel_rfl) (by simp) ?_
        refine AllReadyH.cons rfl (fun K hK2 => ?_) AllReadyH.nil
        refine step_put rfl 34 (.tmp 2) (.tmp 61) rfl ⟨gr, 0, none⟩ (.agg L.toArray) rfl rfl (PU.out _ Z0.out) rfl ?_
        have Z9 := Lib.hid (ST.out _ Z0.out)
        refine hK2.out _ _ Z9.out.1 (fun hH3 => ?_)
        refine takeH (i := 5) (t := 3) (v := .int .i64 (xgen.tmod 2)) rfl rfl (by kernel_rfl) (by kernel_rfl) (by kernel_rfl) (fun _ _ _ h => h) (Or.inl ⟨by rfl, fun w hSw => by first | rfl | go_simp⟩) hH3 ?_
        simp only [Act.put, List.setIfInBounds_toArray, List.set_cons_zero, List.set_cons_succ]
        refine takeH (i := 6) (t := 4) (v := .int .i64 0) rfl rfl (by kernel_rfl) (by kernel_rfl) (by kernel_rfl) (fun _ _ _ h => h) (Or.inl ⟨by rfl, fun w hSw => by first | rfl | go_simp⟩) hH3 ?_
        simp only [Act.put, List.setIfInBounds_toArray, List.set_cons_zero, List.set_cons_succ]
        refine wpAnyH_done (by kernel_rfl) ?_ _
        obtain ⟨W5, hW5⟩ : ∃ W, W = wr.drew.setCells gr 0 L := ⟨_, rfl⟩
        rw [← hW5] at Z9 ⊢
        clear hW5 hK2 hH3 hHeld ST PU A0 hu hi Z0 CE
        go_wp2_with fail
        rw [HE.out]
        exact bodyPost_ret (results_cell2 rfl _ _ ⟨gr, 0, none⟩ (.agg (Sup.mk xgen xep xblk xlog xst xpl xrt xcnt xver).arr) rfl (load_super _ _ (Sup.mk xgen xep xblk xlog xst xpl xrt xcnt xver) Z9.out.2)) rfl ⟨rfl, r1, Z9.out.1.rd, RL1.out.1, Z9.out.1.kp, RL1.out.2⟩
end Rf
end Go.Proofs.Ytbdlebengmbooaa
end S1

section S2
namespace Go.Proofs.Ytbdlebengmbooaa
open Go.RowKit Go.Maps Go.Sort
variable {B : Nat} {w : World} {d mb mp : Nat} {cv : Value} {ds : DS}
set_option maxRecDepth 100000 in
set_option maxHeartbeats 4000000 in
theorem read_down (h : Dv B w d mb mp cv ds) (hdn : ds.down = true) : Calls Try.prog 17 #[.pointer (some ⟨d, 0, none⟩)] w fun e w' => e = .returned (.tuple #[.agg zeroS.arr, .int .i64 0, .int .i64 6]) ∧ Dv B w' d mb mp cv ds ∧ Kept (fun k => k = d) w w' := by
  obtain ⟨X1, hX1⟩ : ∃ X, X = w.alloc (.cells #[.int .i64 0, .int .i64 0, .int .i64 0, .int .i64 0, .int .i64 0, .int .i64 0, .int .i64 0, .int .i64 0, .int .i64 0] 34) := ⟨_, rfl⟩
  obtain ⟨gr, hgr⟩ : ∃ g, g = w.heap.size := ⟨_, rfl⟩
  obtain ⟨X, hX⟩ : ∃ X, X = X1.alloc (.cells #[.int .i64 0, .int .i64 0, .int .i64 0, .int .i64 0, .int .i64 0, .int .i64 0, .int .i64 0, .int .i64 0, .int .i64 0] 34) := ⟨_, rfl⟩
  obtain ⟨gn, hgn⟩ : ∃ g, g = X1.heap.size := ⟨_, rfl⟩
  have dlt := (h.foot_lt d (foot_self d mb mp cv)).2
  have s1 : gn = gr + 1 := by rw [hgn, hX1, hgr]; simp
  have R0 : Hid (Rs B w X d mb mp cv gr gn ds zeroS) := Lib.hid (by
    have b1 : Below w.heap.size w X1 := by rw [hX1]; exact (Below.refl _ _).alloc (Nat.le_refl _) _
    have b2 : Below w.heap.size w X := by rw [hX]; exact b1.alloc b1.size _
    have e1 : X1.heap[gr]? = some (.cells zeroS.arr 34 (0, 0)) := by rw [hgr, hX1]; exact heap_alloc_new _ _
    refine ⟨?_, by rw [hX, hgn]; exact heap_alloc_new _ _, h.below b2, Below.kept b2 _, by omega⟩
    rw [hX, Below.heap_alloc _ _ _ (by rw [← hgn]; omega)]
    exact e1)
  have RD : Hid (Calls Try.prog 42 #[.pointer (some ⟨d, 0, none⟩), .int .i64 0] X fun e w' => ∃ v, e = .returned (.tuple #[v, .int .i64 6]) ∧ Own X.heap.size w' v [] ∧ Rs B w w' d mb mp cv gr gn ds zeroS) := Lib.hid (by
    have hb : hasB ds (0 : Int) = true := by unfold hasB; rw [Bool.and_eq_true, decide_eq_true_iff, decide_eq_true_iff]; have := h.fit.lo; omega
    have e : rdD ds 0 = (ds, [], 6) := by unfold rdD; rw [if_neg (by rw [hb]; simp), if_pos hdn]
    have q := read_any R0.out.dv 0
    rw [e] at q
    refine q.mono ?_
    rintro e w' ⟨v, rfl, ho, hd, hk⟩
    exact ⟨v, rfl, ho, R0.out.dev hd hk⟩)
  have hX1' := hX1.symm
  have hX' := hX.symm
  have hgr' := hgr.symm
  have hgn' := hgn.symm
  clear hX1 hX hgr hgn h dlt s1 hdn
  go_enter Try.func17, Try.ntmps17
  go_wp2_with fail
  clear hX1' hX' hgr' hgn'
  refine wp_loop_rounds 1 ?_
  rw [rounds_succ]
  go_wp2_with fail
  refine RD.out.mono ?_
  rintro e w2 ⟨v, rfl, ho, h2⟩
  obtain ⟨a7, n7, c7, e7⟩ : ∃ a n c, v = .slice a n c := by obtain ⟨a, c, e, _⟩ := ho.bytes.len; exact ⟨a, _, c, e⟩
  subst e7
  have R2 := Lib.hid h2
  clear ho h2 RD R0
  go_wp2_with (first | (refine wpList_store_row rfl 34 (.tmp 2) (.tmp 24) rfl gr zeroS.arr rfl rfl 34 zeroS.arr R2.out.r size_super rfl (arr_one _) ?_))
  obtain ⟨q1, q2, q3⟩ := R2.out.fill zeroS
  exact bodyPost_ret (results_cell2 rfl _ _ ⟨gr, 0, none⟩ (.agg zeroS.arr) rfl (load_super _ _ zeroS q1)) rfl ⟨rfl, q2, q3⟩
end Go.Proofs.Ytbdlebengmbooaa
end S2

section S3
namespace Go.Proofs.Ytbdlebengmbooaa
open Go.RowKit Go.Maps
namespace Rf
variable {B : Nat} {w : World} {x : Nat} {bv lv kv : Value} {ds : DS} {r : RD}
set_option maxRecDepth 100000 in
set_option maxHeartbeats 4000000 in
theorem rread_down (h : Rd B w x bv lv kv r) (hrel : Rel ds r) (hfit : Fit ds) (hdn : ds.down = true) : Calls Try.prog 18 #[.pointer (some ⟨x, 0, none⟩)] w fun e w' => e = .returned (.tuple #[.agg zeroS.arr, .int .i64 0, .int .i64 6]) ∧ ∃ r', Rd B w' x bv lv kv r' ∧ Rel ds r' ∧ Kept (fun k => k = x) w w' ∧ r'.laid.length + r'.cache.length = r.laid.length + r.cache.length := by
  obtain ⟨mm, hmm⟩ : ∃ m, m = r.laid.length + r.cache.length := ⟨_, rfl⟩
  rw [← hmm]
  obtain ⟨X1, hX1⟩ : ∃ X, X = w.alloc (.cells #[.int .i64 0, .int .i64 0, .int .i64 0, .int .i64 0, .int .i64 0, .int .i64 0, .int .i64 0, .int .i64 0, .int .i64 0] 34) := ⟨_, rfl⟩
  obtain ⟨gr, hgr⟩ : ∃ g, g = w.heap.size := ⟨_, rfl⟩
  obtain ⟨X, hX⟩ : ∃ X, X = X1.alloc (.cells #[.int .i64 0, .int .i64 0, .int .i64 0, .int .i64 0, .int .i64 0, .int .i64 0, .int .i64 0, .int .i64 0, .int .i64 0] 34) := ⟨_, rfl⟩
  obtain ⟨gn, hgn⟩ : ∃ g, g = X1.heap.size := ⟨_, rfl⟩
  have dlt := (h.foot_lt x (.inl rfl)).2
  have s1 : gn = gr + 1 := by rw [hgn, hX1, hgr]; simp
  have R0 : Hid (Rq B w X x bv lv kv gr gn ds r zeroS mm) := Lib.hid (by
    have b1 : Below w.heap.size w X1 := by rw [hX1]; exact (Below.refl _ _).alloc (Nat.le_refl _) _
    have b2 : Below w.heap.size w X := by rw [hX]; exact b1.alloc b1.size _
    have e1 : X1.heap[gr]? = some (.cells zeroS.arr 34 (0, 0)) := by rw [hgr, hX1]; exact heap_alloc_new _ _
    refine ⟨by rw [hX, hgn]; exact heap_alloc_new _ _, ?_, h.below b2, hrel, Below.kept b2 _, ⟨by omega, by omega, by omega⟩, hmm.symm⟩
    rw [hX, Below.heap_alloc _ _ _ (by rw [← hgn]; omega)]
    exact e1)
  have RD : Hid (∀ W, Rq B w W x bv lv kv gr gn ds r zeroS mm → Calls Try.prog 44 #[.pointer (some ⟨x, 0, none⟩), .int .i64 0] W fun e w' => ∃ v, e = .returned (.tuple #[v, .int .i64 6]) ∧ Own W.heap.size w' v [] ∧ ∃ r', Rq B w w' x bv lv kv gr gn ds r' zeroS mm) := Lib.hid (fun W h => by
    have hb : hasB ds (0 : Int) = true := by unfold hasB; rw [Bool.and_eq_true, decide_eq_true_iff, decide_eq_true_iff]; have := hfit.lo; omega
    have e : rdD ds 0 = (ds, [], 6) := by unfold rdD; rw [if_neg (by rw [hb]; simp), if_pos hdn]
    have SS := read_same h.rel (0 : Int)
    have KE := rread_keeps r (0 : Int)
    refine (rread_any h.rd (0 : Int)).mono ?_
    rintro e' w' ⟨v, rfl, ho, hd, hk2⟩
    rw [e] at SS
    have s1 : (rrd r (0 : Int)).2.1 = [] := by rw [SS.1]
    have s2 : (rrd r (0 : Int)).2.2 = 6 := by rw [SS.1]
    rw [s1] at ho
    rw [s2]
    exact ⟨v, rfl, ho, (rrd r (0 : Int)).1, by rw [hk2.block _ (lt_of_heap h.n) (x_ty h.rd h.n (by decide))]; exact h.n, by rw [hk2.block _ (lt_of_heap h.rr) (x_ty h.rd h.rr (by decide))]; exact h.rr, hd, SS.2, h.kp.trans hk2 (fun _ _ e => e), h.ne, by rw [KE.1, KE.2]; exact h.ln⟩)
  have hX1' := hX1.symm
  have hX' := hX.symm
  have hgr' := hgr.symm
  have hgn' := hgn.symm
  clear hX1 hX hgr hgn h dlt s1 hdn hfit hrel hmm
  go_enter Try.func18, Try.ntmps18
  go_wp2_with (first | (refine wpList_store_row rfl 34 (.tmp 5) (.tmp 14) rfl gn zeroS.arr rfl rfl 34 zeroS.arr R0.out.n size_super rfl (arr_one _) ?_))
  have R1 := Lib.hid (R0.out.best zeroS)
  clear hX1' hX' hgr' hgn' R0
  refine wp_loop_rounds 1 ?_
  rw [rounds_succ]
  go_wp2_with fail
  refine (RD.out _ R1.out).mono ?_
  rintro e w2 ⟨v, rfl, ho, r2, h2⟩
  obtain ⟨a7, n7, c7, e7⟩ : ∃ a n c, v = .slice a n c := by obtain ⟨a, c, e, _⟩ := ho.bytes.len; exact ⟨a, _, c, e⟩
  subst e7
  have R2 := Lib.hid h2
  clear ho h2 RD R1
  go_wp2_with (first | (refine wpList_store_row rfl 34 (.tmp 2) (.tmp 27) rfl gr zeroS.arr rfl rfl 34 zeroS.arr R2.out.rr size_super rfl (arr_one _) ?_))
  obtain ⟨q1, q2, q3⟩ := R2.out.fill zeroS
  exact bodyPost_ret (results_cell2 rfl _ _ ⟨gr, 0, none⟩ (.agg zeroS.arr) rfl (load_super _ _ zeroS q1)) rfl ⟨rfl, r2, q2, R2.out.rel, q3, R2.out.ln⟩
/-- The device behind Read. -/
def redS (ds : DS) : DS := if ds.down = true then ds else rdk ds 2
theorem rread_r (h : Rd B w x bv lv kv r) (hrel : Rel ds r) (hfit : Fit ds) : Calls Try.prog 18 #[.pointer (some ⟨x, 0, none⟩)] w fun e w' => e = .returned (.tuple #[.agg (readR ds).1.arr, .int .i64 (readR ds).2.1, .int .i64 (readR ds).2.2]) ∧ ∃ r', Rd B w' x bv lv kv r' ∧ Rel (redS ds) r' ∧ Kept (fun k => k = x) w w' ∧ r'.laid.length + r'.cache.length = r.laid.length + r.cache.length := by
  unfold readR redS
  by_cases hd : ds.down = true
  · rw [if_pos hd, if_pos hd]
    exact rread_down h hrel hfit hd
  · rw [if_neg hd, if_neg hd]
    exact rread_up h hrel hfit (by simpa using hd)
theorem read_r {d mb mp : Nat} {cv : Value} (h : Dv B w d mb mp cv ds) : Calls Try.prog 17 #[.pointer (some ⟨d, 0, none⟩)] w fun e w' => e = .returned (.tuple #[.agg (readR ds).1.arr, .int .i64 (readR ds).2.1, .int .i64 (readR ds).2.2]) ∧ Dv B w' d mb mp cv (redS ds) ∧ Kept (fun k => k = d) w w' := by
  unfold readR redS
  by_cases hd : ds.down = true
  · rw [if_pos hd, if_pos hd]
    exact read_down h hd
  · rw [if_neg hd, if_neg hd]
    exact read_up h (by simpa using hd)
end Rf
end Go.Proofs.Ytbdlebengmbooaa
end S3
