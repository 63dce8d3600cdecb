/-
  The statements' own: plays: a step on both.
-/
import Derived.Test.YtfdhccanacpanaaRfD
import Derived.Deep.RegionHeldLaw
namespace Go.Proofs.Ytfdhccanacpanaa
open Go.RowKit
/-- A space and the document's, of the same states. -/
structure Pr (B : Nat) (w : World) (d s e f : Nat) (l : List UInt8) : Prop where
  sp : Sp B w d s f l
  rs : ∃ vw vn, Rs B w e f vw vn l
variable {B : Nat} {w w' : World} {d s e f : Nat} {l l' : List UInt8}
theorem Pr.below (h : Pr B w d s e f l) (b : Below w.heap.size w w') : Pr B w' d s e f l := by
  obtain ⟨vw, vn, r⟩ := h.rs
  exact ⟨h.sp.below b, vw, vn, r.below b⟩
theorem Pr.one (h : Pr B w d s e f l) (t : Sp B w' d s f l') (K : Kept (fun k => k = s) w w') : Sp B w' d s f l' ∧ ∃ vw vn, Rs B w' e f vw vn l := by
  obtain ⟨vw, vn, r⟩ := h.rs
  refine ⟨t, vw, vn, r.kept K (fun q => ?_) (fun k hk cur hc => ?_)⟩
  · have := r.self
    rw [q, h.sp.sts] at this
    simp at this
  · subst hk
    rw [h.sp.sts] at hc
    simp at hc
theorem Pr.two {vw vn : Value} (t : Sp B w d s f l') (r : Rs B w e f vw vn l) (K : Kept (fun k => k = e) w w') : Sp B w' d s f l' := by
  refine t.kept K (fun q => ?_) (fun q => ?_)
  · have := t.self
    rw [q, r.self] at this
    simp at this
  · have := t.sts
    rw [q, r.self] at this
    simp at this
/-- What a step does to both. -/
def ply (f : Nat) (k b : Int) (l : List UInt8) : List UInt8 := stepR f k b l
theorem kept_two {a b c : World} (h : Kept (fun k => k = s) a b) (k : Kept (fun k => k = e) b c) : Kept (fun k => k = s ∨ k = e) a c :=
  (h.mono fun _ _ q => Or.inl q).trans k fun _ _ q => Or.inr q
set_option maxRecDepth 100000 in
set_option maxHeartbeats 4000000 in
theorem plays_any (h : Pr B w d s e f l) (hB : B ≤ w.heap.size) (o : OpS) (ho : -9223372036854775808 ≤ o.block ∧ o.block < 9223372036854775808) :
    Calls Try.prog 23 #[.pointer (some ⟨d, 0, none⟩), .pointer (some ⟨e, 0, none⟩), .agg o.cells.toArray] w fun r w' => r = .returned (.bool true) ∧ Pr B w' d s e f (stepR f o.kind o.block l) ∧ Kept (fun k => k = s ∨ k = e) w w' := by
  obtain ⟨two, kind, block⟩ := o
  have HO : Hid (-9223372036854775808 ≤ block ∧ block < 9223372036854775808) := Lib.hid ho
  clear ho
  show Calls Try.prog _ #[_, _, .agg #[.bool two, .int .i64 kind, .int .i64 block]] w fun r w' => r = .returned (.bool true) ∧ Pr B w' d s e f (stepR f kind block l) ∧ Kept (fun k => k = s ∨ k = e) w w'
  obtain ⟨X, hX⟩ : ∃ X, X = w.alloc (.cells #[.bool two, .int .i64 kind, .int .i64 block] 38) := ⟨_, rfl⟩
  have b1 : Below w.heap.size w X := by rw [hX]; exact (Below.refl _ _).alloc (Nat.le_refl _) _
  have H := Lib.hid (h.below b1)
  have K := Lib.hid (Below.kept b1 (fun k => k = s ∨ k = e))
  have BX := Lib.hid (Nat.le_trans hB b1.size)
  have c1 : X.cell? ⟨w.heap.size, 1, none⟩ = some (.int .i64 kind) := by rw [hX, World.cell?_alloc_new]; rfl
  have hh : Hid (X.heap[w.heap.size]? = some (.cells #[.bool two, .int .i64 kind, .int .i64 block] 38 (0, 0))) := Lib.hid (by rw [hX]; exact heap_alloc_new _ _)
  have hX' := hX.symm
  clear h b1 hX
  go_enter Try.func23, Try.ntmps23
  by_cases k1 : kind = 1
  · have E : Hid (stepR f kind block l = (takeR f l).2.2) := Lib.hid (by unfold stepR; rw [if_pos k1])
    have g1 : (kind == 1) = true := by rw [k1]; rfl
    clear k1
    obtain ⟨tb, htb⟩ : ∃ tb, tb = (takeR f l).1 := ⟨_, rfl⟩
    obtain ⟨te, hte⟩ : ∃ te, te = (takeR f l).2.1 := ⟨_, rfl⟩
    have T1 : Hid (Calls Try.prog 17 #[.pointer (some ⟨d, 0, none⟩)] X fun r w' => r = .returned (.tuple #[.int .i64 tb, .int .i64 te]) ∧ Sp B w' d s f (takeR f l).2.2 ∧ Kept (fun k => k = s) X w') := Lib.hid (by rw [htb, hte]; exact take_any H.out.sp)
    have T2 : Hid (∀ (W : World) (vw vn : Value), Rs B W e f vw vn l → B ≤ W.heap.size → Calls Try.prog 28 #[.pointer (some ⟨e, 0, none⟩)] W fun r w' => r = .returned (.tuple #[.int .i64 tb, .int .i64 te]) ∧ (∃ vn', Rs B w' e f vw vn' (takeR f l).2.2) ∧ Kept (fun k => k = e) W w') := Lib.hid (fun W vw vn r hW => by rw [htb, hte]; exact rtake_any r hW)
    clear htb hte
    go_wp2_with fail
    refine T1.out.mono ?_
    rintro _ w2 ⟨rfl, s2, k2⟩
    obtain ⟨_, vw, vn, r2⟩ := H.out.one s2 k2
    have R2 := Lib.hid (And.intro s2 (And.intro r2 k2))
    clear s2 r2 k2
    go_wp2_with fail
    refine (T2.out _ _ _ R2.out.2.1 (Nat.le_trans BX.out R2.out.2.2.size)).mono ?_
    rintro _ w3 ⟨rfl, ⟨vn', r3⟩, k3⟩
    have R3 : Hid (Pr B w3 d s e f (takeR f l).2.2 ∧ Kept (fun k => k = s ∨ k = e) X w3) := Lib.hid ⟨⟨Pr.two R2.out.1 R2.out.2.1 k3, _, _, r3⟩, kept_two R2.out.2.2 k3⟩
    clear r3 k3
    go_wp2_with fail
    go_ret
    rw [E.out]
    exact ⟨rfl, R3.out.1, K.out.trans R3.out.2 fun _ _ q => q⟩
  · have g1 : (kind == 1) = false := by rw [beq_eq_false_iff_ne]; exact k1
    by_cases k2 : kind = 2
    · have E : Hid (stepR f kind block l = (giveR f l block).2) := Lib.hid (by unfold stepR; rw [if_neg k1, if_pos k2])
      have g2 : (kind == 2) = true := by rw [k2]; rfl
      clear k1 k2
      obtain ⟨te, hte⟩ : ∃ te, te = (giveR f l block).1 := ⟨_, rfl⟩
      obtain ⟨l2, hl2⟩ : ∃ l2, l2 = (giveR f l block).2 := ⟨_, rfl⟩
      have bD : Below X.heap.size X X.drew := ⟨rfl, rfl, rfl, Nat.le_refl _, fun _ _ => rfl⟩
      have GV : Hid (Calls Try.prog 13 #[.pointer (some ⟨d, 0, none⟩), .int .i64 block] X.drew fun r w' => r = .returned (.int .i64 te) ∧ (Sp B w' d s f l2 ∧ (∃ vw vn, Rs B w' e f vw vn l) ∧ Kept (fun k => k = s ∨ k = e) X w')) := Lib.hid (by
        rw [hte, hl2]
        refine (give_any (H.out.below bD).sp block HO.out).mono ?_
        rintro r w' ⟨h1, h2, h3⟩
        exact ⟨h1, h2, ((H.out.below bD).one h2 h3).2, (Below.kept bD (fun k => k = s ∨ k = e)).trans h3 fun _ _ q => Or.inl q⟩)
      have GR : Hid (∀ W : World, (Sp B W d s f l2 ∧ (∃ vw vn, Rs B W e f vw vn l) ∧ Kept (fun k => k = s ∨ k = e) X W) → Calls Try.prog 29 #[.pointer (some ⟨e, 0, none⟩), .int .i64 block] W fun r w' => r = .returned (.int .i64 te) ∧ Pr B w' d s e f l2 ∧ Kept (fun k => k = s ∨ k = e) X w') := Lib.hid (fun W h => by
        obtain ⟨h1, ⟨vw, vn, h2⟩, h3⟩ := h
        rw [hte]
        refine (rgive_any h2 (Nat.le_trans BX.out h3.size) block HO.out).mono ?_
        rintro r w' ⟨q1, ⟨vn', q2⟩, q3⟩
        exact ⟨q1, ⟨Pr.two h1 h2 q3, vw, vn', by rw [hl2]; exact q2⟩, h3.trans q3 fun _ _ q => Or.inr q⟩)
      rw [← hl2] at E
      have KS : Hid (∀ W : World, Kept (fun k => k = s ∨ k = e) X W → W.cell? ⟨w.heap.size, 2, none⟩ = some (.int .i64 block)) := Lib.hid (fun W h => by
        have hne : ¬ (w.heap.size = s ∨ w.heap.size = e) := by
          rintro (q | q)
          · have := hh.out
            rw [q, H.out.sp.sts] at this
            simp at this
          · obtain ⟨vw, vn, r⟩ := H.out.rs
            have := hh.out
            rw [q, r.self] at this
            simp at this
        rw [cell_of_row W w.heap.size 2 _ _ _ ((h.block _ (lt_of_heap hh.out) hne).trans hh.out)]; rfl)
      have KD : Hid (X.drew.cell? ⟨w.heap.size, 2, none⟩ = some (.int .i64 block)) := Lib.hid (KS.out _ (Below.kept bD _))
      clear hte hl2 bD
      go_wp2_with fail
      go_region_held (fun W : World => W.cell? ⟨w.heap.size, 2, none⟩ = some (.int .i64 block)) (first | exact KD.out | exact KS.out _ hR3.2 | exact KS.out _ hR2.2.2) (first | (go_at_call 13; refine GV.out.mono ?_; rintro _ w2 ⟨rfl, hR2⟩) | (go_at_call 29; refine (GR.out _ hR2).mono ?_; rintro _ w3 ⟨rfl, hR3⟩))
      have R3 := Lib.hid hR3
      clear hR2 hR3
      go_wp2_with fail
      go_ret
      rw [E.out]
      exact ⟨rfl, R3.out.1, K.out.trans R3.out.2 fun _ _ q => q⟩
    · have g2 : (kind == 2) = false := by rw [beq_eq_false_iff_ne]; exact k2
      by_cases k3 : kind = 3
      · have E : Hid (stepR f kind block l = stlR 2 0 l) := Lib.hid (by unfold stepR; rw [if_neg k1, if_neg k2, if_pos k3])
        have g3 : (kind == 3) = true := by rw [k3]; rfl
        clear k1 k2 k3
        go_wp2_with fail
        refine (commit_any H.out.sp).mono ?_
        rintro _ w2 ⟨rfl, s2, k2⟩
        obtain ⟨_, vw, vn, r2⟩ := H.out.one s2 k2
        have R2 := Lib.hid (And.intro s2 (And.intro r2 k2))
        clear s2 r2 k2
        go_wp2_with fail
        refine (rcommit_any R2.out.2.1 (Nat.le_trans BX.out R2.out.2.2.size)).mono ?_
        rintro _ w3 ⟨rfl, ⟨vw', r3⟩, k3⟩
        have R3 : Hid (Pr B w3 d s e f (stlR 2 0 l) ∧ Kept (fun k => k = s ∨ k = e) X w3) := Lib.hid ⟨⟨Pr.two R2.out.1 R2.out.2.1 k3, _, _, r3⟩, kept_two R2.out.2.2 k3⟩
        clear r3 k3
        go_wp2_with fail
        go_ret
        rw [E.out]
        exact ⟨rfl, R3.out.1, K.out.trans R3.out.2 fun _ _ q => q⟩
      · have g3 : (kind == 3) = false := by rw [beq_eq_false_iff_ne]; exact k3
        by_cases k4 : kind = 4
        · have E : Hid (stepR f kind block l = stlR 0 2 l) := Lib.hid (by unfold stepR; rw [if_neg k1, if_neg k2, if_neg k3, if_pos k4])
          have g4 : (kind == 4) = true := by rw [k4]; rfl
          clear k1 k2 k3 k4
          go_wp2_with fail
          refine (back_any H.out.sp).mono ?_
          rintro _ w2 ⟨rfl, s2, k2⟩
          obtain ⟨_, vw, vn, r2⟩ := H.out.one s2 k2
          have R2 := Lib.hid (And.intro s2 (And.intro r2 k2))
          clear s2 r2 k2
          go_wp2_with fail
          refine (rback_any R2.out.2.1 (Nat.le_trans BX.out R2.out.2.2.size)).mono ?_
          rintro _ w3 ⟨rfl, ⟨vw', r3⟩, k3⟩
          have R3 : Hid (Pr B w3 d s e f (stlR 0 2 l) ∧ Kept (fun k => k = s ∨ k = e) X w3) := Lib.hid ⟨⟨Pr.two R2.out.1 R2.out.2.1 k3, _, _, r3⟩, kept_two R2.out.2.2 k3⟩
          clear r3 k3
          go_wp2_with fail
          go_ret
          rw [E.out]
          exact ⟨rfl, R3.out.1, K.out.trans R3.out.2 fun _ _ q => q⟩
        · have g4 : (kind == 4) = false := by rw [beq_eq_false_iff_ne]; exact k4
          have E : Hid (stepR f kind block l = l) := Lib.hid (by unfold stepR; rw [if_neg k1, if_neg k2, if_neg k3, if_neg k4])
          by_cases k5 : kind = 5
          · have g5 : (kind == 5) = true := by rw [k5]; rfl
            clear k1 k2 k3 k4 k5
            obtain ⟨F, hF⟩ : ∃ F, F = freeN l := ⟨_, rfl⟩
            have F1 : Hid (Calls Try.prog 18 #[.pointer (some ⟨d, 0, none⟩)] X fun r w' => r = .returned (.int .i64 F) ∧ w' = X) := Lib.hid (by rw [hF]; exact free_any H.out.sp)
            have F2 : Hid (Calls Try.prog 32 #[.pointer (some ⟨e, 0, none⟩)] X fun r w' => r = .returned (.int .i64 F) ∧ w' = X) := Lib.hid (by
              obtain ⟨vw, vn, r⟩ := H.out.rs
              rw [hF]; exact rfreeN_any r)
            clear hF
            go_wp2_with fail
            refine F1.out.mono ?_
            rintro _ w2 ⟨rfl, h2⟩
            obtain rfl := h2.symm
            go_wp2_with fail
            refine F2.out.mono ?_
            rintro _ w2 ⟨rfl, h2⟩
            obtain rfl := h2.symm
            clear F1 F2
            go_wp2_with fail
            refine (taken_any H.out.sp).mono ?_
            rintro _ w3 ⟨u3, rfl, o3, b3⟩
            have H3 := Lib.hid (H.out.below b3)
            have B3 := Lib.hid b3
            have O3 := Lib.hid o3
            obtain ⟨a3, n3, c3, e3⟩ := slice_of o3
            subst e3
            have RT : Hid (Calls Try.prog 33 #[.pointer (some ⟨e, 0, none⟩)] w3 fun r w' => ∃ u, r = .returned u ∧ OwnI w3.heap.size w' u (those [1, 2] f l) ∧ Below w3.heap.size w3 w') := Lib.hid (by
              obtain ⟨vw, vn, r⟩ := H3.out.rs
              exact rtaken_any r)
            clear o3 b3
            go_wp2_with fail
            refine RT.out.mono ?_
            rintro _ w4 ⟨u4, rfl, o4, b4⟩
            have B4 := Lib.hid (B3.out.trans (b4.mono B3.out.size))
            have SI := Lib.hid (sameInts_yes _ _ _ w4 (O3.out.below b4).ints o4.ints)
            obtain ⟨a4, n4, c4, e4⟩ := slice_of o4
            subst e4
            clear o4 b4 RT O3 H3 B3
            go_wp2_with fail
            refine SI.out.mono ?_
            rintro _ w5 ⟨rfl, b5⟩
            have B5 := Lib.hid (B4.out.trans (b5.mono B4.out.size))
            have H5 := Lib.hid (H.out.below B5.out)
            clear b5 SI B4
            go_wp2_with fail
            refine (held_any H5.out.sp).mono ?_
            rintro _ w6 ⟨u6, rfl, o6, b6⟩
            have B6 := Lib.hid (B5.out.trans (b6.mono B5.out.size))
            have O6 := Lib.hid o6
            have RH : Hid (Calls Try.prog 34 #[.pointer (some ⟨e, 0, none⟩)] w6 fun r w' => ∃ u, r = .returned u ∧ OwnI w6.heap.size w' u (those [3] f l) ∧ Below w6.heap.size w6 w') := Lib.hid (by
              obtain ⟨vw, vn, r⟩ := (H5.out.below b6).rs
              exact rheld_any r)
            obtain ⟨a6, n6, c6, e6⟩ := slice_of o6
            subst e6
            clear o6 b6 H5 B5
            go_wp2_with fail
            refine RH.out.mono ?_
            rintro _ w7 ⟨u7, rfl, o7, b7⟩
            have B7 := Lib.hid (B6.out.trans (b7.mono B6.out.size))
            have SI := Lib.hid (sameInts_yes _ _ _ w7 (O6.out.below b7).ints o7.ints)
            obtain ⟨a7, n7, c7, e7⟩ := slice_of o7
            subst e7
            clear o7 b7 RH O6 B6
            go_wp2_with fail
            refine SI.out.mono ?_
            rintro _ w8 ⟨rfl, b8⟩
            have B8 := Lib.hid (B7.out.trans (b8.mono B7.out.size))
            clear b8 SI B7
            go_wp2_with fail
            go_ret
            rw [E.out]
            exact ⟨rfl, H.out.below B8.out, K.out.trans (Below.kept B8.out (fun k => k = s ∨ k = e)) fun _ _ q => q⟩
          · have g5 : (kind == 5) = false := by rw [beq_eq_false_iff_ne]; exact k5
            clear k1 k2 k3 k4 k5
            go_wp2_with fail
            go_ret
            rw [E.out]
            exact ⟨rfl, H.out, K.out⟩
end Go.Proofs.Ytfdhccanacpanaa
