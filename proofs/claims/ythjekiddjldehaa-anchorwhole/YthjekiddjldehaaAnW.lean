/-
  Write.
-/
import Derived.Test.YthjekiddjldehaaAnQ
import Derived.Test.YthjekiddjldehaaWrB
import Derived.Test.YthjekiddjldehaaFlA
import Derived.BigQuiet
import Derived.Lib.QuietBelow
import Derived.RegionTactic
import Derived.BigRegion
namespace Go.Proofs.Ythjekiddjldehaa
open Go.RowKit Go.Maps Go.Sort
variable {B : Nat} {w W W' : World} {d mb mp : Nat} {cv : Value} {ds : DS}
theorem wr_ws (ds : DS) (i : Int) (p : List UInt8) : (wrE ds i p).1.ws ≤ ds.ws + 1 := by
  unfold wrE
  have h := act_same ds
  repeat' split
  · exact Nat.le_succ _
  · exact Nat.le_succ _
  · rw [h.2.2.2.1]; exact Nat.le_succ _
  · show (actD ds).1.ws + 1 ≤ _
    rw [h.2.2.2.1]
    exact Nat.le_refl _
theorem wr_cache (ds : DS) (i : Int) (p : List UInt8) : (wrE ds i p).1.cache.length ≤ ds.cache.length + 1 := by
  unfold wrE
  have h := act_same ds
  repeat' split
  · exact Nat.le_succ _
  · exact Nat.le_succ _
  · rw [h.1]; exact Nat.le_succ _
  · show ((actD ds).1.cache ++ [(i.toNat, p)]).length ≤ _
    rw [h.1, List.length_append]
    exact Nat.le_refl _

/-- What Write does. -/
def wrA (ds : DS) (s : Sup) : DS × Int := if vaB s (ds.n : Int) = false then (ds, 1) else if (wrE ds (s.gen % 2) (layA s)).2 ≠ 0 then wrE ds (s.gen % 2) (layA s) else flD (wrE ds (s.gen % 2) (layA s)).1
/-- In Write: the argument's box, the device. -/
structure Wr (B : Nat) (w W : World) (d mb mp : Nat) (cv : Value) (gx : Nat) (t : DS) (s : Sup) : Prop where
  x : W.heap[gx]? = some (.cells s.arr 25 (0, 0))
  dv : Dv B W d mb mp cv t
  bl : Below w.heap.size w W
theorem Wr.below {gx : Nat} {t : DS} {s : Sup} (h : Wr B w W d mb mp cv gx t s) (hb : Below W.heap.size W W') : Wr B w W' d mb mp cv gx t s :=
  ⟨by rw [hb.block _ (lt_of_heap h.x)]; exact h.x, h.dv.below hb, h.bl.trans (hb.mono h.bl.size)⟩
theorem Wr.drew {gx : Nat} {t : DS} {s : Sup} (h : Wr B w W d mb mp cv gx t s) : Wr B w W.drew d mb mp cv gx t s := h.below ⟨rfl, rfl, rfl, Nat.le_refl _, fun _ _ => rfl⟩
set_option maxRecDepth 100000 in
set_option maxHeartbeats 8000000 in
theorem write_a (h : Dv B w d mb mp cv ds) (s : Sup) (hws : ds.ws < 4611686018427387904) (hcl : ds.cache.length < 137438953471) : Calls Try.prog 20 #[.pointer (some ⟨d, 0, none⟩), .agg s.arr] w fun e w' => ∃ cv', e = .returned (.int .i64 (wrA ds s).2) ∧ Dv B w' d mb mp cv' (wrA ds s).1 ∧ Kept (Foot d mb mp cv) w w' ∧ At cv cv' w := by
  obtain ⟨RR, hRR⟩ : ∃ RR, RR = wrA ds s := ⟨_, rfl⟩
  rw [← hRR]
  have HR := Lib.hid hRR
  clear hRR
  have BD := Lib.hid (And.intro hws hcl)
  clear hws hcl
  obtain ⟨xgen, xep, xblk, xlog, xst, xpl, xrt, xcnt, xver⟩ := s
  unfold Sup.arr
  simp only
  obtain ⟨X, hX⟩ : ∃ X, X = w.alloc (.cells #[.int .i64 xgen, .int .i64 xep, .int .i64 xblk, .int .i64 xlog, .int .i64 xst, .int .i64 xpl, .int .i64 xrt, .int .i64 xcnt, .int .i64 xver] 25) := ⟨_, rfl⟩
  obtain ⟨gx, hgx⟩ : ∃ g, g = w.heap.size := ⟨_, rfl⟩
  have dlt := (h.foot_lt d (foot_self d mb mp cv)).2
  have W0 : Hid (Wr B w X d mb mp cv gx ds (Sup.mk xgen xep xblk xlog xst xpl xrt xcnt xver)) := Lib.hid (by
    have b1 : Below w.heap.size w X := by rw [hX]; exact (Below.refl _ _).alloc (Nat.le_refl _) _
    exact ⟨by rw [hX, hgx]; exact heap_alloc_new _ _, h.below b1, b1⟩)
  have DL := Lib.hid dlt
  obtain ⟨y0, y1, y2, y3, y4, y5, y6, y7, y8⟩ := sup_cells W0.out.x
  simp only at y0 y1 y2 y3 y4 y5 y6 y7 y8
  have r0 : ∀ (dq : Nat) (os : Array Obj), (grow (redrawn X dq) os).cell? ⟨gx, 0, none⟩ = some (.int .i64 xgen) := fun dq os => cell_regrown y0 dq os
  have r1' : ∀ (dq : Nat) (os : Array Obj), (grow (redrawn X dq) os).cell? ⟨gx, 1, none⟩ = some (.int .i64 xep) := fun dq os => cell_regrown y1 dq os
  have r2' : ∀ (dq : Nat) (os : Array Obj), (grow (redrawn X dq) os).cell? ⟨gx, 2, none⟩ = some (.int .i64 xblk) := fun dq os => cell_regrown y2 dq os
  have r3 : ∀ (dq : Nat) (os : Array Obj), (grow (redrawn X dq) os).cell? ⟨gx, 3, none⟩ = some (.int .i64 xlog) := fun dq os => cell_regrown y3 dq os
  have r4 : ∀ (dq : Nat) (os : Array Obj), (grow (redrawn X dq) os).cell? ⟨gx, 4, none⟩ = some (.int .i64 xst) := fun dq os => cell_regrown y4 dq os
  have r5 : ∀ (dq : Nat) (os : Array Obj), (grow (redrawn X dq) os).cell? ⟨gx, 5, none⟩ = some (.int .i64 xpl) := fun dq os => cell_regrown y5 dq os
  have r6 : ∀ (dq : Nat) (os : Array Obj), (grow (redrawn X dq) os).cell? ⟨gx, 6, none⟩ = some (.int .i64 xrt) := fun dq os => cell_regrown y6 dq os
  have r7 : ∀ (dq : Nat) (os : Array Obj), (grow (redrawn X dq) os).cell? ⟨gx, 7, none⟩ = some (.int .i64 xcnt) := fun dq os => cell_regrown y7 dq os
  have r8 : ∀ (dq : Nat) (os : Array Obj), (grow (redrawn X dq) os).cell? ⟨gx, 8, none⟩ = some (.int .i64 xver) := fun dq os => cell_regrown y8 dq os
  have xB : Hid (∀ (dq : Nat) (os : Array Obj), Below X.heap.size X (grow (redrawn X dq) os)) := fun dq os => below_regrown X dq os
  obtain ⟨nn, hnn⟩ : ∃ n, n = ds.n := ⟨_, rfl⟩
  have qB : Hid (∀ (dq : Nat) (os : Array Obj), Calls Try.prog 42 #[.pointer (some ⟨d, 0, none⟩)] (grow (redrawn X dq) os) fun e w'' => e = .returned (.int .i64 (nn : Int)) ∧ ∃ p : Regrown, w'' = grow (redrawn X p.d) p.os) := fun dq os => by
    refine (blocks_any (W0.out.dv.below (xB.out dq os))).mono ?_
    rintro e w' ⟨rfl, rfl⟩
    exact ⟨by rw [hnn], ⟨dq, os⟩, rfl⟩
  have HV : Hid (RR = if vaB (Sup.mk xgen xep xblk xlog xst xpl xrt xcnt xver) (nn : Int) = false then (ds, 1) else if (wrE ds (xgen % 2) (layA (Sup.mk xgen xep xblk xlog xst xpl xrt xcnt xver))).2 ≠ 0 then wrE ds (xgen % 2) (layA (Sup.mk xgen xep xblk xlog xst xpl xrt xcnt xver)) else flD (wrE ds (xgen % 2) (layA (Sup.mk xgen xep xblk xlog xst xpl xrt xcnt xver))).1) := Lib.hid (by rw [HR.out, hnn]; rfl)
  have hX' := hX.symm
  have hgx' := hgx.symm
  clear hX hgx h dlt HR hnn
  cases hva : vaB (Sup.mk xgen xep xblk xlog xst xpl xrt xcnt xver) (nn : Int) with
  | false =>
    have qV : Hid (∀ (dq : Nat) (os : Array Obj), Calls Try.prog 14 #[.agg #[.int .i64 xgen, .int .i64 xep, .int .i64 xblk, .int .i64 xlog, .int .i64 xst, .int .i64 xpl, .int .i64 xrt, .int .i64 xcnt, .int .i64 xver], .int .i64 (nn : Int)] (grow (redrawn X dq) os) fun e w'' => e = .returned (.bool false) ∧ ∃ p : Regrown, w'' = grow (redrawn X p.d) p.os) := fun dq os => Calls.regrown_of (by have := valid_any (Sup.mk xgen xep xblk xlog xst xpl xrt xcnt xver) (nn : Int) (grow (redrawn X dq) os); rw [hva] at this; exact this)
    have HE : Hid (RR = (ds, 1)) := Lib.hid (by rw [HV.out, hva, if_pos rfl])
    clear hva HV
    go_enter Try.func20, Try.ntmps20
    go_wp2_with fail
    refine wp_region_quiet_below (by kernel_rfl) (by kernel_rfl) ?_
    repeat (go_big_quiet_step (first | with_reducible exact qB.out _ _ | with_reducible exact qV.out _ _))
    refine wpQuiet_nil ?_
    intro _ hw'
    obtain ⟨⟨dq, osq⟩, hw''⟩ := hw'
    subst hw''
    go_wp2_with fail
    go_ret
    rw [HE.out]
    have Z := W0.out.below (xB.out dq osq)
    exact ⟨cv, rfl, Z.dv, Below.kept Z.bl _, At.refl _ _⟩
  | true =>
    have qV : Hid (∀ (dq : Nat) (os : Array Obj), Calls Try.prog 14 #[.agg #[.int .i64 xgen, .int .i64 xep, .int .i64 xblk, .int .i64 xlog, .int .i64 xst, .int .i64 xpl, .int .i64 xrt, .int .i64 xcnt, .int .i64 xver], .int .i64 (nn : Int)] (grow (redrawn X dq) os) fun e w'' => e = .returned (.bool true) ∧ ∃ p : Regrown, w'' = grow (redrawn X p.d) p.os) := fun dq os => Calls.regrown_of (by have := valid_any (Sup.mk xgen xep xblk xlog xst xpl xrt xcnt xver) (nn : Int) (grow (redrawn X dq) os); rw [hva] at this; exact this)
    have GE : 1 ≤ xgen ∧ xblk = (nn : Int) := va_gen hva
    have VD : Vd (Sup.mk xgen xep xblk xlog xst xpl xrt xcnt xver) := (vd_iff _).1 (by rw [show (Sup.mk xgen xep xblk xlog xst xpl xrt xcnt xver).blk = (nn : Int) from GE.2]; exact hva)
    have HE : Hid (RR = if (wrE ds (xgen % 2) (layA (Sup.mk xgen xep xblk xlog xst xpl xrt xcnt xver))).2 ≠ 0 then wrE ds (xgen % 2) (layA (Sup.mk xgen xep xblk xlog xst xpl xrt xcnt xver)) else flD (wrE ds (xgen % 2) (layA (Sup.mk xgen xep xblk xlog xst xpl xrt xcnt xver))).1) := Lib.hid (by rw [HV.out, hva, if_neg (by simp)])
    have KS : Hid (∀ W : World, Wr B w W d mb mp cv gx ds (Sup.mk xgen xep xblk xlog xst xpl xrt xcnt xver) → W.cell? ⟨gx, 0, none⟩ = some (.int .i64 xgen) ∧ W.cell? ⟨gx, 1, none⟩ = some (.int .i64 xep) ∧ W.cell? ⟨gx, 2, none⟩ = some (.int .i64 xblk) ∧ W.cell? ⟨gx, 3, none⟩ = some (.int .i64 xlog) ∧ W.cell? ⟨gx, 4, none⟩ = some (.int .i64 xst) ∧ W.cell? ⟨gx, 5, none⟩ = some (.int .i64 xpl) ∧ W.cell? ⟨gx, 6, none⟩ = some (.int .i64 xrt) ∧ W.cell? ⟨gx, 7, none⟩ = some (.int .i64 xcnt) ∧ W.cell? ⟨gx, 8, none⟩ = some (.int .i64 xver)) := Lib.hid (fun W h => sup_cells h.x)
    have HO : Hid (∀ W, Wr B w W d mb mp cv gx ds (Sup.mk xgen xep xblk xlog xst xpl xrt xcnt xver) → Calls Try.prog 43 #[.agg #[.int .i64 xgen, .int .i64 xep, .int .i64 xblk, .int .i64 xlog, .int .i64 xst, .int .i64 xpl, .int .i64 xrt, .int .i64 xcnt, .int .i64 xver]] W fun e w' => e = .returned (.int .i64 (xgen % 2)) ∧ Wr B w w' d mb mp cv gx ds (Sup.mk xgen xep xblk xlog xst xpl xrt xcnt xver) ∧ ∀ v l, Own w.heap.size W v l → Own w.heap.size w' v l) := Lib.hid (fun W h => (home_any (Sup.mk xgen xep xblk xlog xst xpl xrt xcnt xver) W (by show 0 ≤ xgen; omega)).mono (fun e w' q => ⟨q.1, h.below q.2, fun v l o => o.below q.2⟩))
    have LY : Hid (∀ W, Wr B w W d mb mp cv gx ds (Sup.mk xgen xep xblk xlog xst xpl xrt xcnt xver) → Calls Try.prog 39 #[.agg #[.int .i64 xgen, .int .i64 xep, .int .i64 xblk, .int .i64 xlog, .int .i64 xst, .int .i64 xpl, .int .i64 xrt, .int .i64 xcnt, .int .i64 xver]] W fun e w' => ∃ gb, e = .returned (.slice (some ⟨gb, 0, none⟩) 512 512) ∧ Own w.heap.size w' (.slice (some ⟨gb, 0, none⟩) 512 512) (layA (Sup.mk xgen xep xblk xlog xst xpl xrt xcnt xver)) ∧ Wr B w w' d mb mp cv gx ds (Sup.mk xgen xep xblk xlog xst xpl xrt xcnt xver)) := Lib.hid (fun W h => (lay_any (Sup.mk xgen xep xblk xlog xst xpl xrt xcnt xver) VD W).mono (fun e w' ⟨gb, q1, q2, q3⟩ => ⟨gb, q1, q2.mono h.bl.size, h.below q3⟩))
    obtain ⟨r, hr⟩ : ∃ r, r = wrE ds (xgen % 2) (layA (Sup.mk xgen xep xblk xlog xst xpl xrt xcnt xver)) := ⟨_, rfl⟩
    rw [← hr] at HE
    have WT : Hid (∀ W gb, Wr B w W d mb mp cv gx ds (Sup.mk xgen xep xblk xlog xst xpl xrt xcnt xver) → Own w.heap.size W (.slice (some ⟨gb, 0, none⟩) 512 512) (layA (Sup.mk xgen xep xblk xlog xst xpl xrt xcnt xver)) → Calls Try.prog 49 #[.pointer (some ⟨d, 0, none⟩), .int .i64 (xgen % 2), .slice (some ⟨gb, 0, none⟩) 512 512] W fun e w' => e = .returned (.int .i64 r.2) ∧ w'.heap[gx]? = some (.cells (Sup.mk xgen xep xblk xlog xst xpl xrt xcnt xver).arr 25 (0, 0)) ∧ ∃ cv', Dv B w' d mb mp cv' r.1 ∧ Kept (Foot d mb mp cv) w w' ∧ At cv cv' w) := Lib.hid (fun W gb hw ho => by
      refine (write_any2 hw.dv (xgen % 2) _ (layA (Sup.mk xgen xep xblk xlog xst xpl xrt xcnt xver)) (fun w' hk => (ho.kept hk (fun k hk e => by have := (ho.lt k hk).1; have := DL.out; omega)).bytes) BD.out.1 (by have := BD.out.2; omega)).mono ?_
      rintro e w' ⟨cv', q1, q2, q3, q4⟩
      rw [← hr] at q1 q2
      refine ⟨q1, by rw [q3.block gx (lt_of_heap hw.x) (sup_foot hw.dv hw.x)]; exact hw.x, cv', q2, (Below.kept hw.bl (Foot d mb mp cv)).trans q3 (fun _ _ q => q), fun k hk => ?_⟩
      rcases q4 k hk with q | q
      · exact Or.inl q
      · exact Or.inr (Nat.le_trans hw.bl.size q))
    have FL : Hid (∀ W cv', Dv B W d mb mp cv' r.1 → Kept (Foot d mb mp cv) w W → At cv cv' w → Calls Try.prog 50 #[.pointer (some ⟨d, 0, none⟩)] W fun e w' => e = .returned (.int .i64 (flD r.1).2) ∧ ∃ cv'', Dv B w' d mb mp cv'' (flD r.1).1 ∧ Kept (Foot d mb mp cv) w w' ∧ At cv cv'' w) := Lib.hid (fun W cv' q1 q2 q3 => by
      refine (flush_any2 q1 (by have := wr_cache ds (xgen % 2) (layA (Sup.mk xgen xep xblk xlog xst xpl xrt xcnt xver)); rw [← hr] at this; have := BD.out.2; omega)).mono ?_
      rintro e w' ⟨cv'', p1, p2, p3, p4⟩
      refine ⟨p1, cv'', p2, q2.trans p3 (fun k _ q => ?_), ?_⟩
      · rcases q with q | q | q
        · exact Or.inl q
        · exact Or.inr (Or.inl q)
        · exact Or.inr (Or.inr (Or.inl q))
      · rcases p4 with rfl | rfl
        · exact q3
        · intro k hk
          simp [Value.ownBlock] at hk)
    obtain ⟨r1, r2⟩ := r
    simp only at WT FL HE
    clear hva HV VD GE hr DL BD
    go_enter Try.func20, Try.ntmps20
    go_wp2_with fail
    refine wp_region_quiet_below (by kernel_rfl) (by kernel_rfl) ?_
    repeat (go_big_quiet_step (first | with_reducible exact qB.out _ _ | with_reducible exact qV.out _ _))
    refine wpQuiet_nil ?_
    intro _ hw'
    obtain ⟨⟨dq, osq⟩, hw''⟩ := hw'
    subst hw''
    have W1 := Lib.hid (W0.out.below (xB.out dq osq))
    obtain ⟨w1, hw1⟩ : ∃ W, W = grow (redrawn X dq) osq := ⟨_, rfl⟩
    rw [← hw1] at W1 ⊢
    clear hw1 qB qV r0 r1' r2' r3 r4 r5 r6 r7 r8 y0 y1 y2 y3 y4 y5 y6 y7 y8 W0 xB hX' hgx'
    have W2 := Lib.hid W1.out.drew
    go_wp2_with fail
    go_region_held (fun W : World => W.cell? ⟨gx, 0, none⟩ = some (.int .i64 xgen) ∧ W.cell? ⟨gx, 1, none⟩ = some (.int .i64 xep) ∧ W.cell? ⟨gx, 2, none⟩ = some (.int .i64 xblk) ∧ W.cell? ⟨gx, 3, none⟩ = some (.int .i64 xlog) ∧ W.cell? ⟨gx, 4, none⟩ = some (.int .i64 xst) ∧ W.cell? ⟨gx, 5, none⟩ = some (.int .i64 xpl) ∧ W.cell? ⟨gx, 6, none⟩ = some (.int .i64 xrt) ∧ W.cell? ⟨gx, 7, none⟩ = some (.int .i64 xcnt) ∧ W.cell? ⟨gx, 8, none⟩ = some (.int .i64 xver)) (first | exact sup_cells qx | exact KS.out _ h5 | exact KS.out _ h4.1 | exact KS.out _ W2.out) (first | (go_at_call 43; refine (HO.out _ (by first | exact h5 | exact W2.out)).mono ?_; rintro e w4 ⟨rfl, h4⟩) | (go_at_call 39; refine (LY.out _ (by first | exact h4.1 | exact W2.out)).mono ?_; rintro e w5 ⟨gb, rfl, o5, h5⟩) | (go_at_call 49; refine (WT.out _ gb (by first | exact h5 | exact h4.1) (by first | exact o5 | exact h4.2 _ _ o5)).mono ?_; rintro e w6 ⟨rfl, qx, cv', q1, q2, q3⟩))
    all_goals
      have Q6 := Lib.hid (And.intro q1 (And.intro q2 q3))
      clear q1 q2 q3 qx h4 h5 o5 KS HO LY WT W2 W1
      by_cases hz : r2 = 0
      · subst hz
        have HF : Hid (RR = flD r1) := Lib.hid (by rw [HE.out, if_neg (by simp)])
        have FL' := Lib.hid (FL.out _ _ Q6.out.1 Q6.out.2.1 Q6.out.2.2)
        clear HE FL Q6
        go_wp2_with fail
        refine FL'.out.mono ?_
        rintro e w7 ⟨rfl, cv'', q1, q2, q3⟩
        have Q7 := Lib.hid (And.intro q1 (And.intro q2 q3))
        clear q1 q2 q3 FL'
        go_wp2_with fail
        go_ret
        rw [HF.out]
        exact ⟨_, rfl, Q7.out⟩
      · have nz : (r2 != 0) = true := by rw [bne_iff_ne]; exact hz
        have HF : Hid (RR = (r1, r2)) := Lib.hid (by rw [HE.out, if_pos hz])
        clear HE FL hz
        go_wp2_with fail
        go_ret
        rw [HF.out]
        exact ⟨_, rfl, Q6.out⟩
end Go.Proofs.Ythjekiddjldehaa
