/-
  THE WALK of LabelMatches.
-/
import Derived.Test.YtofbnhffojapcaaDoorLblB
import Derived.Test.YtofbnhffojapcaaDoorSameT
import Derived.Test.YtofbnhffojapcaaDoorRefT5
import Derived.Test.YtofbnhffojapcaaDoorFixed
namespace Go.Proofs.YtofbnhffojapcaaDoor
open Go.RowKit Go.Sort
theorem all_t3' {xs ys : List Trm} (h : ys.map t3 = xs.map t3) (ls : List Lbl) : ys.all (fun x => holdsB x ls) = xs.all (fun x => holdsB x ls) := by
  induction ys generalizing xs with
  | nil =>
    cases xs with
    | nil => rfl
    | cons x r => simp at h
  | cons y r ih =>
    cases xs with
    | nil => simp at h
    | cons x q =>
      rw [List.map_cons, List.map_cons, List.cons.injEq] at h
      rw [List.all_cons, List.all_cons, ih h.2, holds_t3 h.1]
theorem matchR_t3' {xs ys : List Trm} (h : ys.map t3 = xs.map t3) (ls : List Lbl) : matchR ys ls = matchR xs ls := by
  unfold matchR
  rw [← terms_t3, h, terms_t3, all_t3' h]
theorem printR_t3 {xs ys : List Trm} (h : ys.map t3 = xs.map t3) : printR ys = printR xs := by
  unfold printR
  rw [← terms_t3 ys, h, terms_t3]
set_option maxHeartbeats 16000000 in
set_option maxRecDepth 100000 in
theorem labelMatches_walk (v : Value) (xs : List Trm) (vl : Value) (ls : List Lbl) (w : World) (hm : HasM w) (hv : Trms w v xs) (hs : xs.length * 48 ≤ 140737488351232 ∧ ∀ x ∈ xs, x.ts.length * 16 ≤ 140737488351232 ∧ (-9223372036854775808 ≤ x.how ∧ x.how ≤ 9223372036854775807) ∧ x.key.size ≤ 140737488351232) (hl : Lbls w vl ls) (hls : ls.length * 32 ≤ 140737488351232) :
    Calls Tryd.prog 8 #[v, vl] w fun e w' => e = .returned (.bool true) ∧ Below w.heap.size w w' := by
  have FX := Lib.hid (fixed_ok w hm)
  have V := Lib.hid hv
  have L := Lib.hid hl
  have LL : Hid (ls.length * 32 ≤ 140737488355328) := Lib.hid (by omega)
  have OW := Lib.hid fun W (hb : Below w.heap.size w W) => own_any v xs W (hv.below hb) hs.1 fun x hx => by have := (hs.2 x hx).1; omega
  have RP := Lib.hid fun W (hb : Below w.heap.size w W) => refPrint_any v xs W (hv.below hb)
  have RL := Lib.hid fun W (hb : Below w.heap.size w W) => refValid_any vl ls W (hl.below hb)
  have RM := Lib.hid fun W (hb : Below w.heap.size w W) => refMatch_any v vl xs ls W (hv.below hb) (hl.below hb)
  obtain ⟨⟨ps, pe⟩, hpr⟩ : ∃ r, r = printR xs := ⟨_, rfl⟩
  obtain ⟨⟨mb, me⟩, hmr⟩ : ∃ r, r = matchR xs ls := ⟨_, rfl⟩
  obtain ⟨ve, hve⟩ : ∃ r, r = validE ls := ⟨_, rfl⟩
  rw [← hpr] at RP
  rw [← hmr] at RM
  rw [← hve] at RL
  have PR := Lib.hid hpr
  have MR := Lib.hid hmr
  have VE := Lib.hid hve
  have ee1 : (pe != pe) = false := by simp
  have ee2 : (me != me) = false := by simp
  have ee3 : (ve != ve) = false := by simp
  have ee4 : (mb != mb) = false := by simp
  obtain ⟨al, cl, rfl, hlcl, hcml⟩ := hl.len
  unfold maxLen at hcml
  clear hpr hmr hve hm hv hs hl hls
  go_enter Tryd.func8, Tryd.ntmps8
  go_wp2_with fail
  refine FX.out.mono ?_
  rintro r w1 ⟨rfl, hb⟩
  have B1 := Lib.hid hb
  clear hb FX
  go_wp2_with fail
  refine (OW.out w1 B1.out).mono ?_
  rintro e w2 ⟨v2, ys, rfl, h3, hc, hb⟩
  have B2 := Lib.hid (B1.out.trans (hb.mono B1.out.size))
  have Y2 := Lib.hid (And.intro h3 hc.trms)
  have L2 := Lib.hid (L.out.below B2.out)
  clear hb h3 hc B1 OW
  go_wp2_with (at_builtin; refine app_lbls rfl _ _ rfl rfl L2.out rfl LL.out ?_)
  intro vl3 w3 ol hb
  have B3 := Lib.hid (B2.out.trans (hb.mono B2.out.size))
  have Y3 := Lib.hid (And.intro Y2.out.1 (And.intro (Y2.out.2.below hb) ol.lbls))
  have PA : Hid (Calls Tryd.prog 11 #[v2] w3 fun e w' => e = .returned (.tuple #[.string ps, .int .i64 pe]) ∧ Below w3.heap.size w3 w') := Lib.hid (by
    have h := print_any v2 ys w3 Y3.out.2.1
    rw [printR_t3 Y3.out.1, ← PR.out] at h
    exact h)
  clear hb ol B2 L2 Y2
  go_wp2_with fail
  refine PA.out.mono ?_
  rintro e w4 ⟨rfl, hb⟩
  have B4 := Lib.hid (B3.out.trans (hb.mono B3.out.size))
  have Y4 := Lib.hid (And.intro (Y3.out.2.1.below hb) (Y3.out.2.2.below hb))
  have T4 := Lib.hid Y3.out.1
  clear hb PA B3 Y3
  go_wp2_with fail
  refine (RP.out w4 B4.out).mono ?_
  rintro e w5 ⟨rfl, hb⟩
  have B5 := Lib.hid (B4.out.trans (hb.mono B4.out.size))
  have Y5 := Lib.hid (And.intro (Y4.out.1.below hb) (Y4.out.2.below hb))
  have VA : Hid (Calls Tryd.prog 24 #[vl3] w5 fun e w' => e = .returned (.int .i64 ve) ∧ Below w5.heap.size w5 w') := Lib.hid (by
    have h := valid_any vl3 ls w5 Y5.out.2
    rw [← VE.out] at h
    exact h)
  clear hb RP B4 Y4
  go_wp2_with fail
  refine VA.out.mono ?_
  rintro e w6 ⟨rfl, hb⟩
  have B6 := Lib.hid (B5.out.trans (hb.mono B5.out.size))
  have Y6 := Lib.hid (And.intro (Y5.out.1.below hb) (Y5.out.2.below hb))
  clear hb VA B5 Y5
  go_wp2_with fail
  refine (RL.out w6 B6.out).mono ?_
  rintro e w7 ⟨rfl, hb⟩
  have B7 := Lib.hid (B6.out.trans (hb.mono B6.out.size))
  have Y7 := Lib.hid (And.intro (Y6.out.1.below hb) (Y6.out.2.below hb))
  have MA : Hid (Calls Tryd.prog 17 #[v2, vl3] w7 fun e w' => e = .returned (.tuple #[.bool mb, .int .i64 me]) ∧ Below w7.heap.size w7 w') := Lib.hid (by
    have h := match_any v2 vl3 ys ls w7 Y7.out.1 Y7.out.2
    rw [matchR_t3' T4.out, ← MR.out] at h
    exact h)
  clear hb RL B6 Y6
  go_wp2_with fail
  refine MA.out.mono ?_
  rintro e w8 ⟨rfl, hb⟩
  have B8 := Lib.hid (B7.out.trans (hb.mono B7.out.size))
  have Y8 := Lib.hid (And.intro (Y7.out.1.below hb) (Y7.out.2.below hb))
  clear hb MA B7 Y7
  go_wp2_with fail
  refine (RM.out w8 B8.out).mono ?_
  rintro e w9 ⟨rfl, hb⟩
  have B9 := Lib.hid (B8.out.trans (hb.mono B8.out.size))
  have Y9 := Lib.hid (And.intro (Y8.out.1.below hb) (Y8.out.2.below hb))
  have SM := Lib.hid (sameTerms_yes v2 v ys xs w9 Y9.out.1 (V.out.below B9.out) T4.out)
  obtain ⟨a3, c3, e3, hl3, hc3⟩ := Y9.out.2.len
  unfold maxLen at hc3
  subst e3
  clear hb RM B8 Y8
  go_wp2_with fail
  refine SM.out.mono ?_
  rintro e wa ⟨rfl, hb⟩
  have BA := Lib.hid (B9.out.trans (hb.mono B9.out.size))
  have YA := Lib.hid (Y9.out.2.below hb)
  obtain ⟨m, hmm⟩ : ∃ m, m = ls.length := ⟨_, rfl⟩
  rw [← hmm] at YA hl3 hlcl L ⊢
  have HM := Lib.hid hmm
  have nn : ((m : Int) != (m : Int)) = false := by simp
  clear hb SM B9 Y9 hmm
  go_wp2_with fail
  clear nn
  go_loopg [14] m (fun g si wr => ∃ (k : Nat), k ≤ m ∧ g = m - k ∧ si = .int .i64 k ∧ Below wa.heap.size wa wr)
  case atStart => exact ⟨0, Nat.zero_le _, rfl, rfl, Below.refl _ _⟩
  case round =>
    obtain ⟨k, hk, hg, rfl, hb⟩ := hrel
    have R : Aside (gk = m - k ∧ Below wa.heap.size wa wr) := ⟨hg, hb⟩
    have BR := Lib.hid (BA.out.trans (hb.mono BA.out.size))
    clear hg hb
    by_cases hlt : k < m
    · have hlt' : (k : Int) < (m : Int) := by omega
      obtain ⟨b, off, rfl, l0, l1⟩ := (L.out.below BR.out).at k (by rw [← HM.out]; exact hlt)
      obtain ⟨b', off', rfl, k0, k1⟩ := (YA.out.below R.out.2).at k (by rw [← HM.out]; exact hlt)
      obtain ⟨x, hx⟩ : ∃ x, x = ls.getD k (⟨#[]⟩, ⟨#[]⟩) := ⟨_, rfl⟩
      rw [← hx] at l0 l1 k0 k1
      obtain ⟨lk, lv⟩ := x
      simp only at l0 l1 k0 k1
      have xB : Hid (∀ (dq : Nat) (os : Array Obj), Below wr.heap.size wr (grow (redrawn wr dq) os)) := fun dq os => below_regrown wr dq os
      have r0 : ∀ (dq : Nat) (os : Array Obj), (grow (redrawn wr dq) os).cell? ⟨b, off + k * 2, none⟩ = some (.string lk) := fun dq os => cell_regrown l0 dq os
      have r1 : ∀ (dq : Nat) (os : Array Obj), (grow (redrawn wr dq) os).cell? ⟨b, off + k * 2 + 1, none⟩ = some (.string lv) := fun dq os => cell_regrown l1 dq os
      have r2 : ∀ (dq : Nat) (os : Array Obj), (grow (redrawn wr dq) os).cell? ⟨b', off' + k * 2, none⟩ = some (.string lk) := fun dq os => cell_regrown k0 dq os
      have r3 : ∀ (dq : Nat) (os : Array Obj), (grow (redrawn wr dq) os).cell? ⟨b', off' + k * 2 + 1, none⟩ = some (.string lv) := fun dq os => cell_regrown k1 dq os
      clear hx
      go_wp2_with fail
      refine wp_region_quiet_below (by kernel_rfl) (by kernel_rfl) ?_
      repeat (go_big_quiet_step (fail))
      refine wpQuiet_nil ?_
      intro _ hw'
      obtain ⟨⟨dq, osq⟩, hw''⟩ := hw'
      subst hw''
      have xx := Lib.hid (xB.out dq osq)
      obtain ⟨W5, hW5⟩ : ∃ W, W = grow (redrawn wr dq) osq := ⟨_, rfl⟩
      rw [← hW5] at xx ⊢
      clear hW5 r0 r1 r2 r3 xB l0 l1 k0 k1
      go_wp2_with fail
      go_roundg (m - (k + 1))
      case measure => have := R.out.1; omega
      case rel => exact ⟨k + 1, by omega, rfl, by go_num, R.out.2.trans (xx.out.mono R.out.2.size)⟩
    · have hge : decide ((k : Int) < (m : Int)) = false := decide_eq_false (by omega)
      go_wp2_with fail
      go_ret
      exact ⟨rfl, BR.out⟩
end Go.Proofs.YtofbnhffojapcaaDoor
