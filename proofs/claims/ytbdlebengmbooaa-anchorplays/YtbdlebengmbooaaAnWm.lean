/-
  AnW, ApW, joined.
-/
import Derived.Test.YtbdlebengmbooaaAnQ
import Derived.Test.YtbdlebengmbooaaWrB
import Derived.Test.YtbdlebengmbooaaFlA
import Derived.BigQuiet
import Derived.Lib.QuietBelow
import Derived.RegionTactic
import Derived.BigRegion
import Derived.Test.YtbdlebengmbooaaApRm
section S0
namespace Go.Proofs.Ytbdlebengmbooaa
open Go.RowKit Go.Maps Go.Sort
variable {B : Nat} {w W W' : World} {d mb mp : Nat} {cv : Value} {ds : DS}
theorem wr_ws (ds : DS) (i : Int) (p : List UInt8) : (wrE ds i p).1.ws ≤ ds.ws + 1 := by
  unfold wrE
  have h := act_same ds
  repeat' split
  · exact Nat.le_succ _
  · exact Nat.le_succ _
  · rw [h.2.2.2.1]; exact Nat.le_succ _
  · show (actD ds).1.ws + 1 ≤ _
    rw [h.2.2.2.1]
    exact Nat.le_refl _
theorem wr_cache (ds : DS) (i : Int) (p : List UInt8) : (wrE ds i p).1.cache.length ≤ ds.cache.length + 1 := by
  unfold wrE
  have h := act_same ds
  repeat' split
  · exact Nat.le_succ _
  · exact Nat.le_succ _
  · rw [h.1]; exact Nat.le_succ _
  · show ((actD ds).1.cache ++ [(i.toNat, p)]).length ≤ _
    rw [h.1, List.length_append]
    exact Nat.le_refl _

/-- What Write does. -/
def wrA (ds : DS) (s : Sup) : DS × Int := if vaB s (ds.n : Int) = false then (ds, 1) else if (wrE ds (s.gen % 2) (layA s)).2 ≠ 0 then wrE ds (s.gen % 2) (layA s) else flD (wrE ds (s.gen % 2) (layA s)).1
/-- In Write: the argument's box, the device. -/
structure Wr (B : Nat) (w W : World) (d mb mp : Nat) (cv : Value) (gx : Nat) (t : DS) (s : Sup) : Prop where
  x : W.heap[gx]? = some (.cells s.arr 34 (0, 0))
  dv : Dv B W d mb mp cv t
  bl : Below w.heap.size w W
theorem Wr.below {gx : Nat} {t : DS} {s : Sup} (h : Wr B w W d mb mp cv gx t s) (hb : Below W.heap.size W W') : Wr B w W' d mb mp cv gx t s :=
  ⟨by rw [hb.block _ (lt_of_heap h.x)]; exact h.x, h.dv.below hb, h.bl.trans (hb.mono h.bl.size)⟩
theorem Wr.drew {gx : Nat} {t : DS} {s : Sup} (h : Wr B w W d mb mp cv gx t s) : Wr B w W.drew d mb mp cv gx t s := h.below ⟨rfl, rfl, rfl, Nat.le_refl _, fun _ _ => rfl⟩
set_option maxRecDepth 100000 in
set_option maxHeartbeats 8000000 in
theorem write_a (h : Dv B w d mb mp cv ds) (s : Sup) (hws : ds.ws < 4611686018427387904) (hcl : ds.cache.length < 137438953471) : Calls Try.prog 7 #[.pointer (some ⟨d, 0, none⟩), .agg s.arr] w fun e w' => ∃ cv', e = .returned (.int .i64 (wrA ds s).2) ∧ Dv B w' d mb mp cv' (wrA ds s).1 ∧ Kept (Foot d mb mp cv) w w' ∧ At cv cv' w := by
  obtain ⟨RR, hRR⟩ : ∃ RR, RR = wrA ds s := ⟨_, rfl⟩
  rw [← hRR]
  have HR := Lib.hid hRR
  clear hRR
  have BD := Lib.hid (And.intro hws hcl)
  clear hws hcl
  obtain ⟨xgen, xep, xblk, xlog, xst, xpl, xrt, xcnt, xver⟩ := s
  unfold Sup.arr
  simp only
  obtain ⟨X, hX⟩ : ∃ X, X = w.alloc (.cells #[.int .i64 xgen, .int .i64 xep, .int .i64 xblk, .int .i64 xlog, .int .i64 xst, .int .i64 xpl, .int .i64 xrt, .int .i64 xcnt, .int .i64 xver] 34) := ⟨_, rfl⟩
  obtain ⟨gx, hgx⟩ : ∃ g, g = w.heap.size := ⟨_, rfl⟩
  have dlt := (h.foot_lt d (foot_self d mb mp cv)).2
  have W0 : Hid (Wr B w X d mb mp cv gx ds (Sup.mk xgen xep xblk xlog xst xpl xrt xcnt xver)) := Lib.hid (by
    have b1 : Below w.heap.size w X := by rw [hX]; exact (Below.refl _ _).alloc (Nat.le_refl _) _
    exact ⟨by rw [hX, hgx]; exact heap_alloc_new _ _, h.below b1, b1⟩)
  have DL := Lib.hid dlt
  obtain ⟨y0, y1, y2, y3, y4, y5, y6, y7, y8⟩ := sup_cells W0.out.x
  simp only at y0 y1 y2 y3 y4 y5 y6 y7 y8
  have r0 : ∀ (dq : Nat) (os : Array Obj), (grow (redrawn X dq) os).cell? ⟨gx, 0, none⟩ = some (.int .i64 xgen) := fun dq os => cell_regrown y0 dq os
  have r1' : ∀ (dq : Nat) (os : Array Obj), (grow (redrawn X dq) os).cell? ⟨gx, 1, none⟩ = some (.int .i64 xep) := fun dq os => cell_regrown y1 dq os
  have r2' : ∀ (dq : Nat) (os : Array Obj), (grow (redrawn X dq) os).cell? ⟨gx, 2, none⟩ = some (.int .i64 xblk) := fun dq os => cell_regrown y2 dq os
  have r3 : ∀ (dq : Nat) (os : Array Obj), (grow (redrawn X dq) os).cell? ⟨gx, 3, none⟩ = some (.int .i64 xlog) := fun dq os => cell_regrown y3 dq os
  have r4 : ∀ (dq : Nat) (os : Array Obj), (grow (redrawn X dq) os).cell? ⟨gx, 4, none⟩ = some (.int .i64 xst) := fun dq os => cell_regrown y4 dq os
  have r5 : ∀ (dq : Nat) (os : Array Obj), (grow (redrawn X dq) os).cell? ⟨gx, 5, none⟩ = some (.int .i64 xpl) := fun dq os => cell_regrown y5 dq os
  have r6 : ∀ (dq : Nat) (os : Array Obj), (grow (redrawn X dq) os).cell? ⟨gx, 6, none⟩ = some (.int .i64 xrt) := fun dq os => cell_regrown y6 dq os
  have r7 : ∀ (dq : Nat) (os : Array Obj), (grow (redrawn X dq) os).cell? ⟨gx, 7, none⟩ = some (.int .i64 xcnt) := fun dq os => cell_regrown y7 dq os
  have r8 : ∀ (dq : Nat) (os : Array Obj), (grow (redrawn X dq) os).cell? ⟨gx, 8, none⟩ = some (.int .i64 xver) := fun dq os => cell_regrown y8 dq os
  have xB : Hid (∀ (dq : Nat) (os : Array Obj), Below X.heap.size X (grow (redrawn X dq) os)) := fun dq os => below_regrown X dq os
  obtain ⟨nn, hnn⟩ : ∃ n, n = ds.n := ⟨_, rfl⟩
  have qB : Hid (∀ (dq : Nat) (os : Array Obj), Calls Try.prog 27 #[.pointer (some ⟨d, 0, none⟩)] (grow (redrawn X dq) os) fun e w'' => e = .returned (.int .i64 (nn : Int)) ∧ ∃ p : Regrown, w'' = grow (redrawn X p.d) p.os) := fun dq os => by
    refine (blocks_any (W0.out.dv.below (xB.out dq os))).mono ?_
    rintro e w' ⟨rfl, rfl⟩
    exact ⟨by rw [hnn], ⟨dq, os⟩, rfl⟩
  have HV : Hid (RR = if vaB (Sup.mk xgen xep xblk xlog xst xpl xrt xcnt xver) (nn : Int) = false then (ds, 1) else if (wrE ds (xgen % 2) (layA (Sup.mk xgen xep xblk xlog xst xpl xrt xcnt xver))).2 ≠ 0 then wrE ds (xgen % 2) (layA (Sup.mk xgen xep xblk xlog xst xpl xrt xcnt xver)) else flD (wrE ds (xgen % 2) (layA (Sup.mk xgen xep xblk xlog xst xpl xrt xcnt xver))).1) := Lib.hid (by rw [HR.out, hnn]; rfl)
  have hX' := hX.symm
  have hgx' := hgx.symm
  clear hX hgx h dlt HR hnn
  cases hva : vaB (Sup.mk xgen xep xblk xlog xst xpl xrt xcnt xver) (nn : Int) with
  | false =>
    have qV : Hid (∀ (dq : Nat) (os : Array Obj), Calls Try.prog 26 #[.agg #[.int .i64 xgen, .int .i64 xep, .int .i64 xblk, .int .i64 xlog, .int .i64 xst, .int .i64 xpl, .int .i64 xrt, .int .i64 xcnt, .int .i64 xver], .int .i64 (nn : Int)] (grow (redrawn X dq) os) fun e w'' => e = .returned (.bool false) ∧ ∃ p : Regrown, w'' = grow (redrawn X p.d) p.os) := fun dq os => Calls.regrown_of (by have := valid_any (Sup.mk xgen xep xblk xlog xst xpl xrt xcnt xver) (nn : Int) (grow (redrawn X dq) os); rw [hva] at this; exact this)
    have HE : Hid (RR = (ds, 1)) := Lib.hid (by rw [HV.out, hva, if_pos rfl])
    clear hva HV
    go_enter Try.func7, Try.ntmps7
    go_wp2_with fail
    refine wp_region_quiet_below (by kernel_rfl) (by kernel_rfl) ?_
    repeat (go_big_quiet_step (first | with_reducible exact qB.out _ _ | with_reducible exact qV.out _ _))
    refine wpQuiet_nil ?_
    intro _ hw'
    obtain ⟨⟨dq, osq⟩, hw''⟩ := hw'
    subst hw''
    go_wp2_with fail
    go_ret
    rw [HE.out]
    have Z := W0.out.below (xB.out dq osq)
    exact ⟨cv, rfl, Z.dv, Below.kept Z.bl _, At.refl _ _⟩
  | true =>
    have qV : Hid (∀ (dq : Nat) (os : Array Obj), Calls Try.prog 26 #[.agg #[.int .i64 xgen, .int .i64 xep, .int .i64 xblk, .int .i64 xlog, .int .i64 xst, .int .i64 xpl, .int .i64 xrt, .int .i64 xcnt, .int .i64 xver], .int .i64 (nn : Int)] (grow (redrawn X dq) os) fun e w'' => e = .returned (.bool true) ∧ ∃ p : Regrown, w'' = grow (redrawn X p.d) p.os) := fun dq os => Calls.regrown_of (by have := valid_any (Sup.mk xgen xep xblk xlog xst xpl xrt xcnt xver) (nn : Int) (grow (redrawn X dq) os); rw [hva] at this; exact this)
    have GE : 1 ≤ xgen ∧ xblk = (nn : Int) := va_gen hva
    have VD : Vd (Sup.mk xgen xep xblk xlog xst xpl xrt xcnt xver) := (vd_iff _).1 (by rw [show (Sup.mk xgen xep xblk xlog xst xpl xrt xcnt xver).blk = (nn : Int) from GE.2]; exact hva)
    have HE : Hid (RR = if (wrE ds (xgen % 2) (layA (Sup.mk xgen xep xblk xlog xst xpl xrt xcnt xver))).2 ≠ 0 then wrE ds (xgen % 2) (layA (Sup.mk xgen xep xblk xlog xst xpl xrt xcnt xver)) else flD (wrE ds (xgen % 2) (layA (Sup.mk xgen xep xblk xlog xst xpl xrt xcnt xver))).1) := Lib.hid (by rw [HV.out, hva, if_neg (by simp)])
    have KS : Hid (∀ W : World, Wr B w W d mb mp cv gx ds (Sup.mk xgen xep xblk xlog xst xpl xrt xcnt xver) → W.cell? ⟨gx, 0, none⟩ = some (.int .i64 xgen) ∧ W.cell? ⟨gx, 1, none⟩ = some (.int .i64 xep) ∧ W.cell? ⟨gx, 2, none⟩ = some (.int .i64 xblk) ∧ W.cell? ⟨gx, 3, none⟩ = some (.int .i64 xlog) ∧ W.cell? ⟨gx, 4, none⟩ = some (.int .i64 xst) ∧ W.cell? ⟨gx, 5, none⟩ = some (.int .i64 xpl) ∧ W.cell? ⟨gx, 6, none⟩ = some (.int .i64 xrt) ∧ W.cell? ⟨gx, 7, none⟩ = some (.int .i64 xcnt) ∧ W.cell? ⟨gx, 8, none⟩ = some (.int .i64 xver)) := Lib.hid (fun W h => sup_cells h.x)
    have HO : Hid (∀ W, Wr B w W d mb mp cv gx ds (Sup.mk xgen xep xblk xlog xst xpl xrt xcnt xver) → Calls Try.prog 29 #[.agg #[.int .i64 xgen, .int .i64 xep, .int .i64 xblk, .int .i64 xlog, .int .i64 xst, .int .i64 xpl, .int .i64 xrt, .int .i64 xcnt, .int .i64 xver]] W fun e w' => e = .returned (.int .i64 (xgen % 2)) ∧ Wr B w w' d mb mp cv gx ds (Sup.mk xgen xep xblk xlog xst xpl xrt xcnt xver) ∧ ∀ v l, Own w.heap.size W v l → Own w.heap.size w' v l) := Lib.hid (fun W h => (home_any (Sup.mk xgen xep xblk xlog xst xpl xrt xcnt xver) W (by show 0 ≤ xgen; omega)).mono (fun e w' q => ⟨q.1, h.below q.2, fun v l o => o.below q.2⟩))
    have LY : Hid (∀ W, Wr B w W d mb mp cv gx ds (Sup.mk xgen xep xblk xlog xst xpl xrt xcnt xver) → Calls Try.prog 30 #[.agg #[.int .i64 xgen, .int .i64 xep, .int .i64 xblk, .int .i64 xlog, .int .i64 xst, .int .i64 xpl, .int .i64 xrt, .int .i64 xcnt, .int .i64 xver]] W fun e w' => ∃ gb, e = .returned (.slice (some ⟨gb, 0, none⟩) 512 512) ∧ Own w.heap.size w' (.slice (some ⟨gb, 0, none⟩) 512 512) (layA (Sup.mk xgen xep xblk xlog xst xpl xrt xcnt xver)) ∧ Wr B w w' d mb mp cv gx ds (Sup.mk xgen xep xblk xlog xst xpl xrt xcnt xver)) := Lib.hid (fun W h => (lay_any (Sup.mk xgen xep xblk xlog xst xpl xrt xcnt xver) VD W).mono (fun e w' ⟨gb, q1, q2, q3⟩ => ⟨gb, q1, q2.mono h.bl.size, h.below q3⟩))
    obtain ⟨r, hr⟩ : ∃ r, r = wrE ds (xgen % 2) (layA (Sup.mk xgen xep xblk xlog xst xpl xrt xcnt xver)) := ⟨_, rfl⟩
    rw [← hr] at HE
    have WT : Hid (∀ W gb, Wr B w W d mb mp cv gx ds (Sup.mk xgen xep xblk xlog xst xpl xrt xcnt xver) → Own w.heap.size W (.slice (some ⟨gb, 0, none⟩) 512 512) (layA (Sup.mk xgen xep xblk xlog xst xpl xrt xcnt xver)) → Calls Try.prog 28 #[.pointer (some ⟨d, 0, none⟩), .int .i64 (xgen % 2), .slice (some ⟨gb, 0, none⟩) 512 512] W fun e w' => e = .returned (.int .i64 r.2) ∧ w'.heap[gx]? = some (.cells (Sup.mk xgen xep xblk xlog xst xpl xrt xcnt xver).arr 34 (0, 0)) ∧ ∃ cv', Dv B w' d mb mp cv' r.1 ∧ Kept (Foot d mb mp cv) w w' ∧ At cv cv' w) := Lib.hid (fun W gb hw ho => by
      refine (write_any2 hw.dv (xgen % 2) _ (layA (Sup.mk xgen xep xblk xlog xst xpl xrt xcnt xver)) (fun w' hk => (ho.kept hk (fun k hk e => by have := (ho.lt k hk).1; have := DL.out; omega)).bytes) BD.out.1 (by have := BD.out.2; omega)).mono ?_
      rintro e w' ⟨cv', q1, q2, q3, q4⟩
      rw [← hr] at q1 q2
      refine ⟨q1, by rw [q3.block gx (lt_of_heap hw.x) (sup_foot hw.dv hw.x)]; exact hw.x, cv', q2, (Below.kept hw.bl (Foot d mb mp cv)).trans q3 (fun _ _ q => q), fun k hk => ?_⟩
      rcases q4 k hk with q | q
      · exact Or.inl q
      · exact Or.inr (Nat.le_trans hw.bl.size q))
    have FL : Hid (∀ W cv', Dv B W d mb mp cv' r.1 → Kept (Foot d mb mp cv) w W → At cv cv' w → Calls Try.prog 31 #[.pointer (some ⟨d, 0, none⟩)] W fun e w' => e = .returned (.int .i64 (flD r.1).2) ∧ ∃ cv'', Dv B w' d mb mp cv'' (flD r.1).1 ∧ Kept (Foot d mb mp cv) w w' ∧ At cv cv'' w) := Lib.hid (fun W cv' q1 q2 q3 => by
      refine (flush_any2 q1 (by have := wr_cache ds (xgen % 2) (layA (Sup.mk xgen xep xblk xlog xst xpl xrt xcnt xver)); rw [← hr] at this; have := BD.out.2; omega)).mono ?_
      rintro e w' ⟨cv'', p1, p2, p3, p4⟩
      refine ⟨p1, cv'', p2, q2.trans p3 (fun k _ q => ?_), ?_⟩
      · rcases q with q | q | q
        · exact Or.inl q
        · exact Or.inr (Or.inl q)
        · exact Or.inr (Or.inr (Or.inl q))
      · rcases p4 with rfl | rfl
        · exact q3
        · intro k hk
          simp [Value.ownBlock] at hk)
    obtain ⟨r1, r2⟩ := r
    simp only at WT FL HE
    clear hva HV VD GE hr DL BD
    go_enter Try.func7, Try.ntmps7
    go_wp2_with fail
    refine wp_region_quiet_below (by kernel_rfl) (by kernel_rfl) ?_
    repeat (go_big_quiet_step (first | with_reducible exact qB.out _ _ | with_reducible exact qV.out _ _))
    refine wpQuiet_nil ?_
    intro _ hw'
    obtain ⟨⟨dq, osq⟩, hw''⟩ := hw'
    subst hw''
    have W1 := Lib.hid (W0.out.below (xB.out dq osq))
    obtain ⟨w1, hw1⟩ : ∃ W, W = grow (redrawn X dq) osq := ⟨_, rfl⟩
    rw [← hw1] at W1 ⊢
    clear hw1 qB qV r0 r1' r2' r3 r4 r5 r6 r7 r8 y0 y1 y2 y3 y4 y5 y6 y7 y8 W0 xB hX' hgx'
    have W2 := Lib.hid W1.out.drew
    go_wp2_with fail
    go_region_held (fun W : World => W.cell? ⟨gx, 0, none⟩ = some (.int .i64 xgen) ∧ W.cell? ⟨gx, 1, none⟩ = some (.int .i64 xep) ∧ W.cell? ⟨gx, 2, none⟩ = some (.int .i64 xblk) ∧ W.cell? ⟨gx, 3, none⟩ = some (.int .i64 xlog) ∧ W.cell? ⟨gx, 4, none⟩ = some (.int .i64 xst) ∧ W.cell? ⟨gx, 5, none⟩ = some (.int .i64 xpl) ∧ W.cell? ⟨gx, 6, none⟩ = some (.int .i64 xrt) ∧ W.cell? ⟨gx, 7, none⟩ = some (.int .i64 xcnt) ∧ W.cell? ⟨gx, 8, none⟩ = some (.int .i64 xver)) (first | exact sup_cells qx | exact KS.out _ h5 | exact KS.out _ h4.1 | exact KS.out _ W2.out) (first | (go_at_call 29; refine (HO.out _ (by first | exact h5 | exact W2.out)).mono ?_; rintro e w4 ⟨rfl, h4⟩) | (go_at_call 30; refine (LY.out _ (by first | exact h4.1 | exact W2.out)).mono ?_; rintro e w5 ⟨gb, rfl, o5, h5⟩) | (go_at_call 28; refine (WT.out _ gb (by first | exact h5 | exact h4.1) (by first | exact o5 | exact h4.2 _ _ o5)).mono ?_; rintro e w6 ⟨rfl, qx, cv', q1, q2, q3⟩))
    all_goals
      have Q6 := Lib.hid (And.intro q1 (And.intro q2 q3))
      clear q1 q2 q3 qx h4 h5 o5 KS HO LY WT W2 W1
      by_cases hz : r2 = 0
      · subst hz
        have HF : Hid (RR = flD r1) := Lib.hid (by rw [HE.out, if_neg (by simp)])
        have FL' := Lib.hid (FL.out _ _ Q6.out.1 Q6.out.2.1 Q6.out.2.2)
        clear HE FL Q6
        go_wp2_with fail
        refine FL'.out.mono ?_
        rintro e w7 ⟨rfl, cv'', q1, q2, q3⟩
        have Q7 := Lib.hid (And.intro q1 (And.intro q2 q3))
        clear q1 q2 q3 FL'
        go_wp2_with fail
        go_ret
        rw [HF.out]
        exact ⟨_, rfl, Q7.out⟩
      · have nz : (r2 != 0) = true := by rw [bne_iff_ne]; exact hz
        have HF : Hid (RR = (r1, r2)) := Lib.hid (by rw [HE.out, if_pos hz])
        clear HE FL hz
        go_wp2_with fail
        go_ret
        rw [HF.out]
        exact ⟨_, rfl, Q6.out⟩
end Go.Proofs.Ytbdlebengmbooaa
end S0

section S1
namespace Go.Proofs.Ytbdlebengmbooaa
open Go.RowKit Go.Maps Go.Sort
namespace Rf
variable {B : Nat} {w W W' : World} {x : Nat} {bv lv kv : Value} {ds : DS} {r r' : RD}
theorem wrE_code (h : Rel ds r) (hfit : Fit ds) (k : Int) (h0 : 0 ≤ k) (h1 : k < 2) (p : List UInt8) (hp : p.length = 512) : (wrE ds k p).2 = 0 ∨ (wrE ds k p).2 = 6 := by
  have hb : hasB ds k = true := by unfold hasB; rw [Bool.and_eq_true, decide_eq_true_iff, decide_eq_true_iff]; have := hfit.lo; omega
  have a := (act_rel h).1
  unfold wrE
  rw [if_neg (by rw [hb]; simp), if_neg (by rw [hp]; simp)]
  split
  · rw [a]; split
    · exact .inl rfl
    · exact .inr rfl
  · exact .inl rfl
theorem flD_code (h : Rel ds r) : (flD ds).2 = 0 ∨ (flD ds).2 = 6 := by
  have a := (act_rel h).1
  unfold flD
  split
  · rw [a]; split
    · exact .inl rfl
    · exact .inr rfl
  · exact .inl rfl
theorem wrR_lens (r : RD) (i : Int) (l : List UInt8) (y : Ly) : (wrR r i l y).1.laid.length + (wrR r i l y).1.cache.length ≤ r.laid.length + r.cache.length + 1 := by
  have k := act_keeps r
  unfold wrR
  split
  · simp
  · split
    · simp
    · split
      · show (actR r).1.laid.length + (actR r).1.cache.length ≤ _
        rw [k.2.1, k.2.2.1]; omega
      · show (actR r).1.laid.length + (r.cache ++ [y]).length ≤ _
        rw [k.2.2.1, List.length_append, List.length_singleton]; omega
theorem flR_lens (r : RD) : (flR r).1.laid.length + (flR r).1.cache.length = r.laid.length + r.cache.length := by
  have k := act_keeps r
  unfold flR
  split
  · show (actR r).1.laid.length + (actR r).1.cache.length = _
    rw [k.2.1, k.2.2.1]
  · show (r.laid ++ r.cache).length + 0 = _
    rw [List.length_append]; omega
/-- In Write: the argument's box, the device. -/
structure Wq (B : Nat) (w W : World) (x : Nat) (bv lv kv : Value) (gx : Nat) (r : RD) (s : Sup) : Prop where
  bx : W.heap[gx]? = some (.cells s.arr 34 (0, 0))
  rd : Rd B W x bv lv kv r
  bl : Below w.heap.size w W
theorem Wq.below {gx : Nat} {s : Sup} (h : Wq B w W x bv lv kv gx r s) (hb : Below W.heap.size W W') : Wq B w W' x bv lv kv gx r s :=
  ⟨by rw [hb.block _ (lt_of_heap h.bx)]; exact h.bx, h.rd.below hb, h.bl.trans (hb.mono h.bl.size)⟩
set_option maxRecDepth 100000 in
set_option maxHeartbeats 8000000 in
theorem rwrite_a (h : Rd B w x bv lv kv r) (hrel : Rel ds r) (hfit : Fit ds) (hBw : B ≤ w.heap.size) (s : Sup) (hc : r.laid.length + r.cache.length < 1199999999999) : Calls Try.prog 8 #[.pointer (some ⟨x, 0, none⟩), .agg s.arr] w fun e w' => e = .returned (.int .i64 (wrA ds s).2) ∧ ∃ r', RL B w x bv lv kv w' r' ∧ Rel (wrA ds s).1 r' ∧ r'.laid.length + r'.cache.length ≤ r.laid.length + r.cache.length + 1 := by
  obtain ⟨RR, hRR⟩ : ∃ RR, RR = wrA ds s := ⟨_, rfl⟩
  rw [← hRR]
  have HR := Lib.hid hRR
  clear hRR
  have HC := Lib.hid hc
  obtain ⟨mm, hmm⟩ : ∃ m, m = r.laid.length + r.cache.length := ⟨_, rfl⟩
  rw [← hmm] at HC ⊢
  have HM := Lib.hid hmm
  have RE := Lib.hid (And.intro hrel (And.intro hfit hBw))
  clear hc hmm hrel hfit hBw
  obtain ⟨xgen, xep, xblk, xlog, xst, xpl, xrt, xcnt, xver⟩ := s
  unfold Sup.arr
  simp only
  obtain ⟨X, hX⟩ : ∃ X, X = w.alloc (.cells #[.int .i64 xgen, .int .i64 xep, .int .i64 xblk, .int .i64 xlog, .int .i64 xst, .int .i64 xpl, .int .i64 xrt, .int .i64 xcnt, .int .i64 xver] 34) := ⟨_, rfl⟩
  obtain ⟨gx, hgx⟩ : ∃ g, g = w.heap.size := ⟨_, rfl⟩
  have W0 : Hid (Wq B w X x bv lv kv gx r (Sup.mk xgen xep xblk xlog xst xpl xrt xcnt xver)) := Lib.hid (by
    have b1 : Below w.heap.size w X := by rw [hX]; exact (Below.refl _ _).alloc (Nat.le_refl _) _
    exact ⟨by rw [hX, hgx]; exact heap_alloc_new _ _, h.below b1, b1⟩)
  have FT := Lib.hid (h.foot_lt)
  obtain ⟨y0, y1, y2, y3, y4, y5, y6, y7, y8⟩ := sup_cells W0.out.bx
  simp only at y0 y1 y2 y3 y4 y5 y6 y7 y8
  have r0 : ∀ (dq : Nat) (os : Array Obj), (grow (redrawn X dq) os).cell? ⟨gx, 0, none⟩ = some (.int .i64 xgen) := fun dq os => cell_regrown y0 dq os
  have r1' : ∀ (dq : Nat) (os : Array Obj), (grow (redrawn X dq) os).cell? ⟨gx, 1, none⟩ = some (.int .i64 xep) := fun dq os => cell_regrown y1 dq os
  have r2' : ∀ (dq : Nat) (os : Array Obj), (grow (redrawn X dq) os).cell? ⟨gx, 2, none⟩ = some (.int .i64 xblk) := fun dq os => cell_regrown y2 dq os
  have r3 : ∀ (dq : Nat) (os : Array Obj), (grow (redrawn X dq) os).cell? ⟨gx, 3, none⟩ = some (.int .i64 xlog) := fun dq os => cell_regrown y3 dq os
  have r4 : ∀ (dq : Nat) (os : Array Obj), (grow (redrawn X dq) os).cell? ⟨gx, 4, none⟩ = some (.int .i64 xst) := fun dq os => cell_regrown y4 dq os
  have r5 : ∀ (dq : Nat) (os : Array Obj), (grow (redrawn X dq) os).cell? ⟨gx, 5, none⟩ = some (.int .i64 xpl) := fun dq os => cell_regrown y5 dq os
  have r6 : ∀ (dq : Nat) (os : Array Obj), (grow (redrawn X dq) os).cell? ⟨gx, 6, none⟩ = some (.int .i64 xrt) := fun dq os => cell_regrown y6 dq os
  have r7 : ∀ (dq : Nat) (os : Array Obj), (grow (redrawn X dq) os).cell? ⟨gx, 7, none⟩ = some (.int .i64 xcnt) := fun dq os => cell_regrown y7 dq os
  have r8 : ∀ (dq : Nat) (os : Array Obj), (grow (redrawn X dq) os).cell? ⟨gx, 8, none⟩ = some (.int .i64 xver) := fun dq os => cell_regrown y8 dq os
  have xB : Hid (∀ (dq : Nat) (os : Array Obj), Below X.heap.size X (grow (redrawn X dq) os)) := fun dq os => below_regrown X dq os
  obtain ⟨nn, hnn⟩ : ∃ n, n = ds.n := ⟨_, rfl⟩
  have qB : Hid (∀ (dq : Nat) (os : Array Obj), Calls Try.prog 33 #[.pointer (some ⟨x, 0, none⟩)] (grow (redrawn X dq) os) fun e w'' => e = .returned (.int .i64 (nn : Int)) ∧ ∃ p : Regrown, w'' = grow (redrawn X p.d) p.os) := fun dq os => by
    refine (rblocks_any (W0.out.rd.below (xB.out dq os))).mono ?_
    rintro e w' ⟨rfl, rfl⟩
    exact ⟨by rw [RE.out.1.n, hnn], ⟨dq, os⟩, rfl⟩
  have HV : Hid (RR = if vaB (Sup.mk xgen xep xblk xlog xst xpl xrt xcnt xver) (nn : Int) = false then (ds, 1) else if (wrE ds (xgen % 2) (layA (Sup.mk xgen xep xblk xlog xst xpl xrt xcnt xver))).2 ≠ 0 then wrE ds (xgen % 2) (layA (Sup.mk xgen xep xblk xlog xst xpl xrt xcnt xver)) else flD (wrE ds (xgen % 2) (layA (Sup.mk xgen xep xblk xlog xst xpl xrt xcnt xver))).1) := Lib.hid (by rw [HR.out, hnn]; rfl)
  have hX' := hX.symm
  have hgx' := hgx.symm
  clear hX hgx h HR hnn
  cases hva : vaB (Sup.mk xgen xep xblk xlog xst xpl xrt xcnt xver) (nn : Int) with
  | false =>
    have qV : Hid (∀ (dq : Nat) (os : Array Obj), Calls Try.prog 32 #[.agg #[.int .i64 xgen, .int .i64 xep, .int .i64 xblk, .int .i64 xlog, .int .i64 xst, .int .i64 xpl, .int .i64 xrt, .int .i64 xcnt, .int .i64 xver], .int .i64 (nn : Int)] (grow (redrawn X dq) os) fun e w'' => e = .returned (.bool false) ∧ ∃ p : Regrown, w'' = grow (redrawn X p.d) p.os) := fun dq os => Calls.regrown_of (by have := rvalid_any (Sup.mk xgen xep xblk xlog xst xpl xrt xcnt xver) (nn : Int) (grow (redrawn X dq) os); rw [hva] at this; exact this)
    have HE : Hid (RR = (ds, 1)) := Lib.hid (by rw [HV.out, hva, if_pos rfl])
    clear hva HV
    go_enter Try.func8, Try.ntmps8
    go_wp2_with fail
    refine wp_region_quiet_below (by kernel_rfl) (by kernel_rfl) ?_
    repeat (go_big_quiet_step (first | with_reducible exact qB.out _ _ | with_reducible exact qV.out _ _))
    refine wpQuiet_nil ?_
    intro _ hw'
    obtain ⟨⟨dq, osq⟩, hw''⟩ := hw'
    subst hw''
    go_wp2_with fail
    go_ret
    rw [HE.out]
    have Z := W0.out.below (xB.out dq osq)
    exact ⟨rfl, r, RL.same Z.rd (Below.kept Z.bl _), RE.out.1, by rw [← HM.out]; omega⟩
  | true =>
    have qV : Hid (∀ (dq : Nat) (os : Array Obj), Calls Try.prog 32 #[.agg #[.int .i64 xgen, .int .i64 xep, .int .i64 xblk, .int .i64 xlog, .int .i64 xst, .int .i64 xpl, .int .i64 xrt, .int .i64 xcnt, .int .i64 xver], .int .i64 (nn : Int)] (grow (redrawn X dq) os) fun e w'' => e = .returned (.bool true) ∧ ∃ p : Regrown, w'' = grow (redrawn X p.d) p.os) := fun dq os => Calls.regrown_of (by have := rvalid_any (Sup.mk xgen xep xblk xlog xst xpl xrt xcnt xver) (nn : Int) (grow (redrawn X dq) os); rw [hva] at this; exact this)
    have GE : 1 ≤ xgen ∧ xblk = (nn : Int) := va_gen hva
    have vb : vaB (Sup.mk xgen xep xblk xlog xst xpl xrt xcnt xver) (Sup.mk xgen xep xblk xlog xst xpl xrt xcnt xver).blk = true := by rw [show (Sup.mk xgen xep xblk xlog xst xpl xrt xcnt xver).blk = (nn : Int) from GE.2]; exact hva
    have VD : Vd (Sup.mk xgen xep xblk xlog xst xpl xrt xcnt xver) := (vd_iff _).1 vb
    have l5 : (layA (Sup.mk xgen xep xblk xlog xst xpl xrt xcnt xver)).length = 512 := layA_length _
    have MD : Hid (xgen.tmod 2 = xgen % 2) := Lib.hid (Int.tmod_eq_emod_of_nonneg (by omega))
    have HE : Hid (RR = if (wrE ds (xgen % 2) (layA (Sup.mk xgen xep xblk xlog xst xpl xrt xcnt xver))).2 ≠ 0 then wrE ds (xgen % 2) (layA (Sup.mk xgen xep xblk xlog xst xpl xrt xcnt xver)) else flD (wrE ds (xgen % 2) (layA (Sup.mk xgen xep xblk xlog xst xpl xrt xcnt xver))).1) := Lib.hid (by rw [HV.out, hva, if_neg (by simp)])
    have EN : Hid (∀ W, Wq B w W x bv lv kv gx r (Sup.mk xgen xep xblk xlog xst xpl xrt xcnt xver) → Calls Try.prog 34 #[.agg #[.int .i64 xgen, .int .i64 xep, .int .i64 xblk, .int .i64 xlog, .int .i64 xst, .int .i64 xpl, .int .i64 xrt, .int .i64 xcnt, .int .i64 xver]] W fun e w' => ∃ gb, e = .returned (.tuple #[.slice (some ⟨gb, 0, none⟩) 512 512, .int .i64 0]) ∧ Own w.heap.size w' (.slice (some ⟨gb, 0, none⟩) 512 512) (layA (Sup.mk xgen xep xblk xlog xst xpl xrt xcnt xver)) ∧ Wq B w w' x bv lv kv gx r (Sup.mk xgen xep xblk xlog xst xpl xrt xcnt xver)) := Lib.hid (fun W h => (renc_yes (Sup.mk xgen xep xblk xlog xst xpl xrt xcnt xver) W vb).mono (fun e w' ⟨gb, q1, q2, q3⟩ => ⟨gb, q1, q2.mono h.bl.size, h.below q3⟩))
    obtain ⟨t, ht⟩ : ∃ t, t = wrE ds (xgen % 2) (layA (Sup.mk xgen xep xblk xlog xst xpl xrt xcnt xver)) := ⟨_, rfl⟩
    have C1 : t.2 = 0 ∨ t.2 = 6 := by rw [ht]; exact wrE_code RE.out.1 RE.out.2.1 _ (by omega) (by omega) _ l5
    rw [← ht] at HE
    have WT : Hid (∀ W gb, Wq B w W x bv lv kv gx r (Sup.mk xgen xep xblk xlog xst xpl xrt xcnt xver) → Own w.heap.size W (.slice (some ⟨gb, 0, none⟩) 512 512) (layA (Sup.mk xgen xep xblk xlog xst xpl xrt xcnt xver)) → Calls Try.prog 35 #[.pointer (some ⟨x, 0, none⟩), .int .i64 (xgen.tmod 2), .slice (some ⟨gb, 0, none⟩) 512 512] W fun e w' => e = .returned (.int .i64 t.2) ∧ ∃ r1, RL B w x bv lv kv w' r1 ∧ Rel t.1 r1 ∧ r1.laid.length + r1.cache.length ≤ mm + 1) := Lib.hid (fun W gb hw ho => by
      rw [MD.out]
      refine (rwrite_any hw.rd (Nat.le_trans RE.out.2.2 hw.bl.size) (xgen % 2) _ (layA (Sup.mk xgen xep xblk xlog xst xpl xrt xcnt xver)) (fun w' hk => (ho.kept hk (fun k hk e => by have := (ho.lt k hk).1; have := (FT.out x (.inl rfl)).2; omega)).bytes) (by have := HC.out; have := HM.out; omega)).mono ?_
      rintro e w' ⟨y, q1, q2, q3, q4, q5⟩
      have SS := write_same RE.out.1 (xgen % 2) (layA (Sup.mk xgen xep xblk xlog xst xpl xrt xcnt xver)) y q3 q4 q5
      rw [← ht] at SS
      rw [SS.1] at q1
      exact ⟨q1, _, RL.trans (Below.kept hw.bl _) (fun _ e => .inl e) q2, SS.2, by have := wrR_lens r (xgen % 2) (layA (Sup.mk xgen xep xblk xlog xst xpl xrt xcnt xver)) y; rw [← HM.out] at this; exact this⟩)
    have FL : Hid (∀ W r1, RL B w x bv lv kv W r1 → Rel t.1 r1 → r1.laid.length + r1.cache.length ≤ mm + 1 → Calls Try.prog 36 #[.pointer (some ⟨x, 0, none⟩)] W fun e w' => e = .returned (.int .i64 (flD t.1).2) ∧ ((flD t.1).2 = 0 ∨ (flD t.1).2 = 6) ∧ ∃ r', RL B w x bv lv kv w' r' ∧ Rel (flD t.1).1 r' ∧ r'.laid.length + r'.cache.length ≤ mm + 1) := Lib.hid (fun W r1 hl hre hle => by
      obtain ⟨lv', kv', p1, p2, p3⟩ := hl
      refine (rflush_any p1 (Nat.le_trans RE.out.2.2 p2.size) (by have := HC.out; omega)).mono ?_
      rintro e w' ⟨q1, q2⟩
      have SS := flush_same hre
      rw [SS.1] at q1
      exact ⟨q1, flD_code hre, _, RL.trans p2 p3 q2, SS.2, by rw [flR_lens]; exact hle⟩)
    obtain ⟨t1, t2⟩ := t
    simp only at WT FL HE C1
    have HC1 := Lib.hid C1
    clear C1
    clear hva HV VD GE ht HC HM l5 vb FT
    go_enter Try.func8, Try.ntmps8
    go_wp2_with fail
    refine wp_region_quiet_below (by kernel_rfl) (by kernel_rfl) ?_
    repeat (go_big_quiet_step (first | with_reducible exact qB.out _ _ | with_reducible exact qV.out _ _))
    refine wpQuiet_nil ?_
    intro _ hw'
    obtain ⟨⟨dq, osq⟩, hw''⟩ := hw'
    subst hw''
    have W1 := Lib.hid (W0.out.below (xB.out dq osq))
    obtain ⟨w1, hw1⟩ : ∃ W, W = grow (redrawn X dq) osq := ⟨_, rfl⟩
    rw [← hw1] at W1 ⊢
    clear hw1 qB qV r0 r1' r2' r3 r4 r5 r6 r7 r8 y0 y1 y2 y3 y4 y5 y6 y7 y8 W0 xB hX' hgx'
    go_wp2_with (first | (refine wpList_load_row rfl 34 (.tmp 3) rfl gx rfl 34 (Sup.mk xgen xep xblk xlog xst xpl xrt xcnt xver).arr (0, 0) _ W1.out.bx Try.underlying34 rfl size_super ?_))
    refine (EN.out _ W1.out).mono ?_
    rintro e w2 ⟨gb, rfl, o2, h2⟩
    have W2 := Lib.hid h2
    have O2 := Lib.hid o2
    clear h2 o2 EN W1
    obtain ⟨y0, -, -, -, -, -, -, -, -⟩ := sup_cells W2.out.bx
    simp only at y0
    go_wp2_with fail
    refine (WT.out _ gb W2.out O2.out).mono ?_
    rintro e w3 ⟨rfl, r1, q1, q2, q3⟩
    have Q3 := Lib.hid (And.intro q1 (And.intro q2 q3))
    obtain ⟨⟨u1, u2⟩, hu⟩ : ∃ u, u = flD t1 := ⟨_, rfl⟩
    rw [← hu] at HE FL
    have C6 := HC1.out
    clear q1 q2 q3 WT W2 O2 y0 HC1 hu MD
    rcases C6 with c6 | c6
    · subst c6
      have HF : Hid (RR = (u1, u2)) := Lib.hid (by rw [HE.out, if_neg (by simp)])
      have FL' := Lib.hid (FL.out _ _ Q3.out.1 Q3.out.2.1 Q3.out.2.2)
      clear HE FL Q3
      go_wp2_with fail
      refine FL'.out.mono ?_
      rintro e w4 ⟨rfl, c7, r', p1, p2, p3⟩
      have P4 := Lib.hid (And.intro p1 (And.intro p2 p3))
      clear p1 p2 p3 FL'
      rcases c7 with c7 | c7
      · subst c7
        go_wp2_with fail
        go_ret
        rw [HF.out]
        exact ⟨rfl, r', P4.out⟩
      · subst c7
        go_wp2_with fail
        go_ret
        rw [HF.out]
        exact ⟨rfl, r', P4.out⟩
    · subst c6
      have HF : Hid (RR = (t1, 6)) := Lib.hid (by rw [HE.out, if_pos (by simp)])
      clear HE FL
      go_wp2_with fail
      go_ret
      rw [HF.out]
      exact ⟨rfl, r1, Q3.out⟩
end Rf
end Go.Proofs.Ytbdlebengmbooaa
end S1
