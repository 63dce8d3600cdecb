/-
  The document's holds, Match.
-/
import Derived.Test.YtofbnhffojapcaaDoorRefT4
namespace Go.Proofs.YtofbnhffojapcaaDoor
open Go.RowKit Go.Sort
theorem cont_step (ts : List ByteArray) (k : Nat) (hk : k < ts.length) (v : ByteArray) : Lib.containsS (ts.take (k + 1)) v = (Lib.containsS (ts.take k) v || ((ts.getD k ⟨#[]⟩).toList == v.toList)) := by
  rw [Bool.eq_iff_iff, Bool.or_eq_true, Lib.containsS_iff, Lib.containsS_iff, take_one ts k ⟨#[]⟩ hk, List.mem_append, List.mem_singleton, beq_iff_eq, list_of_bytes, list_of_bytes]
  constructor
  · rintro (h | h)
    · exact .inl h
    · exact .inr (by rw [h])
  · rintro (h | h)
    · exact .inl h
    · exact .inr (by rw [← bys_data v, ← h, bys_data])
set_option maxHeartbeats 16000000 in
set_option maxRecDepth 100000 in
theorem refHolds_any (x : Trm) (v : Value) (ls : List Lbl) (w : World) (hx : x.At w) (hv : Lbls w v ls) (hok : invalidB x = false) :
    Calls Tryd.prog 45 #[.agg x.cells.toArray, v] w fun e w' => e = .returned (.bool (holdsB x ls)) ∧ Below w.heap.size w w' := by
  have hp := (valid_parts hok).2
  obtain ⟨key, how, vals, ts⟩ := x
  have X := Lib.hid hx
  have V := Lib.hid hv
  obtain ⟨a, cap, hvv, hlc, hcm⟩ := hx.1.len
  obtain ⟨al, cl, rfl, hlcl, hcml⟩ := hv.len
  simp only at hvv
  subst hvv
  unfold maxLen at hcm hcml
  unfold Trm.cells
  obtain ⟨q, hq⟩ : ∃ q, q = ts.length := ⟨_, rfl⟩
  obtain ⟨m, hm⟩ : ∃ m, m = ls.length := ⟨_, rfl⟩
  rw [← hq] at hlc X ⊢
  rw [← hm] at hlcl V ⊢
  have HQ := Lib.hid hq
  have HM := Lib.hid hm
  obtain ⟨W1, hW1⟩ : ∃ W, W = w.alloc (.cells #[.string key, .int .i64 how, .slice a q cap] 41) := ⟨_, rfl⟩
  have c0 : W1.cell? ⟨w.heap.size, 0, none⟩ = some (.string key) := by rw [hW1, World.cell?_alloc_new]; rfl
  have c1 : W1.cell? ⟨w.heap.size, 1, none⟩ = some (.int .i64 how) := by rw [hW1, World.cell?_alloc_new]; rfl
  have c2 : W1.cell? ⟨w.heap.size, 2, none⟩ = some (.slice a q cap) := by rw [hW1, World.cell?_alloc_new]; rfl
  have CC : Hid (W1.cell? ⟨w.heap.size, 0, none⟩ = some (.string key) ∧ W1.cell? ⟨w.heap.size, 1, none⟩ = some (.int .i64 how) ∧ W1.cell? ⟨w.heap.size, 2, none⟩ = some (.slice a q cap)) := ⟨c0, c1, c2⟩
  have B1 : Hid (Below w.heap.size w W1) := Lib.hid (by rw [hW1]; exact (Below.refl _ w).alloc (Nat.le_refl _) _)
  have HW : Hid (how = 0 ∨ how = 1 ∨ how = 2 ∨ how = 3) := Lib.hid (by simp only at hp; omega)
  have hW' := hW1.symm
  clear hW1 hx hv hok hp hq hm
  go_enter Tryd.func45, Tryd.ntmps45
  go_wp2_with fail
  clear c0 c1 c2
  go_loopg [5] m (fun g si wr => ∃ (k : Nat), k ≤ m ∧ g = m - k ∧ si = .int .i64 k ∧ (∀ j, j < k → (ls.getD j dL).1.data.toList ≠ key.data.toList) ∧ Below W1.heap.size W1 wr)
  case atStart => exact ⟨0, Nat.zero_le _, rfl, rfl, fun j hj => absurd hj (Nat.not_lt_zero _), Below.refl _ _⟩
  case round =>
    obtain ⟨k, hk, hg, rfl, hpr, hb⟩ := hrel
    have R : Aside (gk = m - k ∧ (∀ j, j < k → (ls.getD j dL).1.data.toList ≠ key.data.toList) ∧ Below W1.heap.size W1 wr) := ⟨hg, hpr, hb⟩
    have c0 : wr.cell? ⟨w.heap.size, 0, none⟩ = some (.string key) := (hb.cell (block_lt_of_cell CC.out.1)).trans CC.out.1
    have c1 : wr.cell? ⟨w.heap.size, 1, none⟩ = some (.int .i64 how) := (hb.cell (block_lt_of_cell CC.out.2.1)).trans CC.out.2.1
    have c2 : wr.cell? ⟨w.heap.size, 2, none⟩ = some (.slice a q cap) := (hb.cell (block_lt_of_cell CC.out.2.2)).trans CC.out.2.2
    have BR := Lib.hid (B1.out.trans (hb.mono B1.out.size))
    clear hg hpr hb
    by_cases hlt : k < m
    · have hlt' : (k : Int) < (m : Int) := by omega
      obtain ⟨b, off, rfl, l0, l1⟩ := (V.out.below BR.out).at k (by rw [← HM.out]; exact hlt)
      obtain ⟨x, hx⟩ : ∃ x, x = ls.getD k dL := ⟨_, rfl⟩
      have l0' : wr.cell? ⟨b, off + k * 2, none⟩ = some (.string x.1) := by rw [hx]; exact l0
      have l1' : wr.cell? ⟨b, off + k * 2 + 1, none⟩ = some (.string x.2) := by rw [hx]; exact l1
      have XX := Lib.hid hx
      obtain ⟨lk, lv⟩ := x
      simp only at l0' l1'
      have xB : Hid (∀ (dq : Nat) (os : Array Obj), Below wr.heap.size wr (grow (redrawn wr dq) os)) := fun dq os => below_regrown wr dq os
      have r0 : ∀ (dq : Nat) (os : Array Obj), (grow (redrawn wr dq) os).cell? ⟨w.heap.size, 0, none⟩ = some (.string key) := fun dq os => cell_regrown c0 dq os
      have r1 : ∀ (dq : Nat) (os : Array Obj), (grow (redrawn wr dq) os).cell? ⟨b, off + k * 2, none⟩ = some (.string lk) := fun dq os => cell_regrown l0' dq os
      clear l0 l1 hx
      by_cases e : lk.data.toList = key.data.toList
      · have ge : (lk.toList == key.toList) = true := by rw [list_of_bytes, list_of_bytes, e]; simp
        have hval : Hid (valOf ls key.data.toList = some lv) := Lib.hid (by
          rw [valOf_first k (by rw [← HM.out]; exact hlt) (by rw [← XX.out]; exact e) R.out.2.1, ← XX.out])
        have T5 : Hid ((wr.cell? ⟨w.heap.size, 1, none⟩ = some (.int .i64 how) ∧ wr.cell? ⟨w.heap.size, 2, none⟩ = some (.slice a q cap)) ∧ wr.cell? ⟨b, off + k * 2 + 1, none⟩ = some (.string lv)) := ⟨⟨c1, c2⟩, l1'⟩
        clear e
        go_wp2_with fail
        refine wp_region_quiet_below (by kernel_rfl) (by kernel_rfl) ?_
        repeat (go_big_quiet_step (fail))
        refine wpQuiet_nil ?_
        intro _ hw'
        obtain ⟨⟨dq, osq⟩, hw''⟩ := hw'
        subst hw''
        have xx := Lib.hid (xB.out dq osq)
        have T6 : Hid ((((grow (redrawn wr dq) osq).cell? ⟨w.heap.size, 1, none⟩ = some (.int .i64 how) ∧ (grow (redrawn wr dq) osq).cell? ⟨w.heap.size, 2, none⟩ = some (.slice a q cap)) ∧ (grow (redrawn wr dq) osq).cell? ⟨b, off + k * 2 + 1, none⟩ = some (.string lv))) := ⟨⟨cell_regrown T5.out.1.1 dq osq, cell_regrown T5.out.1.2 dq osq⟩, cell_regrown T5.out.2 dq osq⟩
        obtain ⟨W5, hW5⟩ : ∃ W, W = grow (redrawn wr dq) osq := ⟨_, rfl⟩
        rw [← hW5] at xx T6 ⊢
        have B5 := Lib.hid (BR.out.trans (xx.out.mono BR.out.size))
        clear hW5 r0 r1 xB c0 c1 c2 l0' l1' T5 xx
        go_wp2_with fail
        go_loopg [6, 7] q (fun g sn sj wq => ∃ (j : Nat), j ≤ q ∧ g = q - j ∧ sn = .bool (Lib.containsS (ts.take j) lv) ∧ sj = .int .i64 j ∧ Below W5.heap.size W5 wq)
        case atStart => exact ⟨0, Nat.zero_le _, rfl, by rw [List.take_zero]; rfl, rfl, Below.refl _ _⟩
        case round =>
          obtain ⟨j, hj, hg2, rfl, rfl, hb2⟩ := hrel
          have R2 : Aside (gk = q - j ∧ Below W5.heap.size W5 wr) := ⟨hg2, hb2⟩
          have d1 : wr.cell? ⟨w.heap.size, 1, none⟩ = some (.int .i64 how) := (hb2.cell (block_lt_of_cell T6.out.1.1)).trans T6.out.1.1
          have d2 : wr.cell? ⟨w.heap.size, 2, none⟩ = some (.slice a q cap) := (hb2.cell (block_lt_of_cell T6.out.1.2)).trans T6.out.1.2
          have dl : wr.cell? ⟨b, off + k * 2 + 1, none⟩ = some (.string lv) := (hb2.cell (block_lt_of_cell T6.out.2)).trans T6.out.2
          have BQ := Lib.hid (B5.out.trans (hb2.mono B5.out.size))
          clear hg2 hb2
          obtain ⟨cb, hcb⟩ : ∃ z, z = Lib.containsS (ts.take j) lv := ⟨_, rfl⟩
          rw [← hcb]
          have HC := Lib.hid hcb
          clear hcb
          by_cases hjq : j < q
          · have hjq' : (j : Int) < (q : Int) := by omega
            obtain ⟨bv, ov, rfl, pv⟩ := (X.out.1.below BQ.out).at j (by simp only; rw [← HQ.out]; exact hjq)
            simp only at pv
            obtain ⟨u, hu⟩ : ∃ u, u = ts.getD j ⟨#[]⟩ := ⟨_, rfl⟩
            rw [← hu] at pv
            have CS : Hid (Lib.containsS (ts.take (j + 1)) lv = (cb || (u.toList == lv.toList))) := Lib.hid (by
              rw [hu, HC.out]
              exact cont_step ts j (by rw [← HQ.out]; exact hjq) lv)
            have yB : Hid (∀ (dq : Nat) (os : Array Obj), Below wr.heap.size wr (grow (redrawn wr dq) os)) := fun dq os => below_regrown wr dq os
            have r0 : ∀ (dq : Nat) (os : Array Obj), (grow (redrawn wr dq) os).cell? ⟨w.heap.size, 2, none⟩ = some (.slice (some ⟨bv, ov, none⟩) q cap) := fun dq os => cell_regrown d2 dq os
            have r1 : ∀ (dq : Nat) (os : Array Obj), (grow (redrawn wr dq) os).cell? ⟨b, off + k * 2 + 1, none⟩ = some (.string lv) := fun dq os => cell_regrown dl dq os
            have r2 : ∀ (dq : Nat) (os : Array Obj), (grow (redrawn wr dq) os).cell? ⟨bv, ov + j, none⟩ = some (.string u) := fun dq os => cell_regrown pv dq os
            clear hu
            cases cb with
            | true =>
              go_wp2_with fail
              refine wp_region_quiet_below (by kernel_rfl) (by kernel_rfl) ?_
              repeat (go_big_quiet_step (fail))
              refine wpQuiet_nil ?_
              intro _ hw'
              obtain ⟨⟨dq2, osq2⟩, hw''⟩ := hw'
              subst hw''
              have yy := Lib.hid (yB.out dq2 osq2)
              obtain ⟨W6, hW6⟩ : ∃ W, W = grow (redrawn wr dq2) osq2 := ⟨_, rfl⟩
              rw [← hW6] at yy ⊢
              clear hW6 r0 r1 r2 yB d1 d2 dl pv
              go_wp2_with fail
              go_roundg (q - (j + 1))
              case measure => have := R2.out.1; omega
              case rel => exact ⟨j + 1, by omega, rfl, by rw [CS.out]; rfl, by go_num, R2.out.2.trans (yy.out.mono R2.out.2.size)⟩
            | false =>
              rw [Bool.false_or] at CS
              obtain ⟨ub, hub⟩ : ∃ ub, (u.toList == lv.toList) = ub := ⟨_, rfl⟩
              rw [hub] at CS
              go_wp2_with fail
              refine wp_region_quiet_below (by kernel_rfl) (by kernel_rfl) ?_
              repeat (go_big_quiet_step (fail))
              refine wpQuiet_nil ?_
              intro _ hw'
              obtain ⟨⟨dq2, osq2⟩, hw''⟩ := hw'
              subst hw''
              have yy := Lib.hid (yB.out dq2 osq2)
              obtain ⟨W6, hW6⟩ : ∃ W, W = grow (redrawn wr dq2) osq2 := ⟨_, rfl⟩
              rw [← hW6] at yy ⊢
              clear hW6 r0 r1 r2 yB d1 d2 dl pv
              go_wp2_with fail
              go_roundg (q - (j + 1))
              case measure => have := R2.out.1; omega
              case rel => exact ⟨j + 1, by omega, rfl, by rw [CS.out], by go_num, R2.out.2.trans (yy.out.mono R2.out.2.size)⟩
          · have hgq : decide ((j : Int) < (q : Int)) = false := decide_eq_false (by omega)
            have CF : Hid (cb = Lib.containsS ts lv) := Lib.hid (by rw [HC.out, List.take_of_length_le (by rw [← HQ.out]; omega)])
            rcases HW.out with h0 | h0 | h0 | h0
            · subst h0
              have hr : Hid (holdsB ⟨key, 0, .slice a q cap, ts⟩ ls = cb) := Lib.hid (by
                unfold holdsB namedB
                simp only [hval.out]
                rw [CF.out]
                cases Lib.containsS ts lv <;> rfl)
              go_wp2_with fail
              go_ret
              exact ⟨by rw [hr.out]; rfl, BQ.out⟩
            · subst h0
              have hr : Hid (holdsB ⟨key, 1, .slice a q cap, ts⟩ ls = !cb) := Lib.hid (by
                unfold holdsB namedB
                simp only [hval.out]
                rw [CF.out]
                cases Lib.containsS ts lv <;> rfl)
              go_wp2_with fail
              go_ret
              exact ⟨by rw [hr.out]; rfl, BQ.out⟩
            · subst h0
              have hr : Hid (holdsB ⟨key, 2, .slice a q cap, ts⟩ ls = true) := Lib.hid (by unfold holdsB; simp [hval.out])
              go_wp2_with fail
              go_ret
              exact ⟨by rw [hr.out]; rfl, BQ.out⟩
            · subst h0
              have hr : Hid (holdsB ⟨key, 3, .slice a q cap, ts⟩ ls = false) := Lib.hid (by unfold holdsB; simp [hval.out])
              go_wp2_with fail
              go_ret
              exact ⟨by rw [hr.out]; rfl, BQ.out⟩
      · have ge : (lk.toList == key.toList) = false := by rw [list_of_bytes, list_of_bytes, beq_eq_false_iff_ne]; exact e
        have E := Lib.hid e
        clear e
        go_wp2_with fail
        refine wp_region_quiet_below (by kernel_rfl) (by kernel_rfl) ?_
        repeat (go_big_quiet_step (fail))
        refine wpQuiet_nil ?_
        intro _ hw'
        obtain ⟨⟨dq, osq⟩, hw''⟩ := hw'
        subst hw''
        have xx := Lib.hid (xB.out dq osq)
        obtain ⟨W5, hW5⟩ : ∃ W, W = grow (redrawn wr dq) osq := ⟨_, rfl⟩
        rw [← hW5] at xx ⊢
        clear hW5 r0 r1 xB c0 c1 c2 l0' l1'
        go_wp2_with fail
        go_roundg (m - (k + 1))
        case measure => have := R.out.1; omega
        case rel => exact ⟨k + 1, by omega, rfl, by go_num, fun j hj => by
          rcases Nat.lt_or_ge j k with h | h
          · exact R.out.2.1 j h
          · obtain rfl : j = k := by omega
            rw [← XX.out]
            exact E.out, R.out.2.2.trans (xx.out.mono R.out.2.2.size)⟩
    · have hge : decide ((k : Int) < (m : Int)) = false := decide_eq_false (by omega)
      have hno : Hid (valOf ls key.data.toList = none) := Lib.hid (valOf_none fun y hy => by
        obtain ⟨j, hj, e⟩ := mem_get hy
        rw [← e]
        exact R.out.2.1 j (by have := HM.out; omega))
      rcases HW.out with h0 | h0 | h0 | h0
      · subst h0
        have hr : Hid (holdsB ⟨key, 0, .slice a q cap, ts⟩ ls = false) := Lib.hid (by unfold holdsB namedB; simp [hno.out])
        go_wp2_with fail
        go_ret
        exact ⟨by rw [hr.out]; rfl, BR.out⟩
      · subst h0
        have hr : Hid (holdsB ⟨key, 1, .slice a q cap, ts⟩ ls = true) := Lib.hid (by unfold holdsB namedB; simp [hno.out])
        go_wp2_with fail
        go_ret
        exact ⟨by rw [hr.out]; rfl, BR.out⟩
      · subst h0
        have hr : Hid (holdsB ⟨key, 2, .slice a q cap, ts⟩ ls = false) := Lib.hid (by unfold holdsB; simp [hno.out])
        go_wp2_with fail
        go_ret
        exact ⟨by rw [hr.out]; rfl, BR.out⟩
      · subst h0
        have hr : Hid (holdsB ⟨key, 3, .slice a q cap, ts⟩ ls = true) := Lib.hid (by unfold holdsB; simp [hno.out])
        go_wp2_with fail
        go_ret
        exact ⟨by rw [hr.out]; rfl, BR.out⟩
set_option maxHeartbeats 8000000 in
set_option maxRecDepth 100000 in
theorem refMatch_any (v vl : Value) (xs : List Trm) (ls : List Lbl) (w : World) (hv : Trms w v xs) (hl : Lbls w vl ls) :
    Calls Tryd.prog 26 #[v, vl] w fun e w' => e = .returned (.tuple #[.bool (matchR xs ls).1, .int .i64 (matchR xs ls).2]) ∧ Below w.heap.size w w' := by
  have V := Lib.hid hv
  have L := Lib.hid hl
  have VT := Lib.hid (refTerms_any v xs w hv)
  obtain ⟨_, a, cap, rfl, hlc, hcm, _, _⟩ := hv
  unfold maxLen at hcm
  cases ht : termsB xs with
  | false =>
    rw [ht] at VT
    have hr : Hid (matchR xs ls = (false, 43)) := Lib.hid (by unfold matchR; rw [if_neg (by rw [ht]; simp)])
    go_enter Tryd.func26, Tryd.ntmps26
    go_wp2_with fail
    refine VT.out.mono ?_
    rintro e w1 ⟨rfl, hb⟩
    have B1 := Lib.hid hb
    clear hb
    go_wp2_with fail
    go_ret2
    exact ⟨by rw [hr.out]; rfl, B1.out⟩
  | true =>
    rw [ht] at VT
    have VL := Lib.hid fun W (hb : Below w.heap.size w W) => refValid_any vl ls W (L.out.below hb)
    cases hok : lblsB ls with
    | false =>
      have hr : Hid (matchR xs ls = (false, 42)) := Lib.hid (by unfold matchR; rw [if_pos ht, if_neg (by rw [hok]; simp)])
      have hE : validE ls = 42 := by unfold validE; rw [hok]; rfl
      rw [hE] at VL
      clear hE
      go_enter Tryd.func26, Tryd.ntmps26
      go_wp2_with fail
      refine VT.out.mono ?_
      rintro e w1 ⟨rfl, hb⟩
      have B1 := Lib.hid hb
      clear hb
      go_wp2_with fail
      refine (VL.out w1 B1.out).mono ?_
      rintro e w2 ⟨rfl, hb⟩
      have B2 := Lib.hid (B1.out.trans (hb.mono B1.out.size))
      clear hb
      go_wp2_with fail
      go_ret2
      exact ⟨by rw [hr.out]; rfl, B2.out⟩
    | true =>
      have hr : Hid (matchR xs ls = (xs.all (fun x => holdsB x ls), 0)) := Lib.hid (by unfold matchR; rw [if_pos ht, if_pos hok])
      have hE : validE ls = 0 := by unfold validE; rw [hok]; rfl
      rw [hE] at VL
      have NV : Hid (∀ x ∈ xs, invalidB x = false) := Lib.hid (by
        unfold termsB at ht
        simp only [Bool.and_eq_true, decide_eq_true_eq, Bool.not_eq_true', List.any_eq_false] at ht
        intro x hx
        simpa using ht.2 x hx)
      obtain ⟨n, hn⟩ : ∃ n, n = xs.length := ⟨_, rfl⟩
      rw [← hn] at hlc V VT ⊢
      have HN := Lib.hid hn
      clear hE ht hok hn hl
      go_enter Tryd.func26, Tryd.ntmps26
      go_wp2_with fail
      refine VT.out.mono ?_
      rintro e w1 ⟨rfl, hb⟩
      have B1 := Lib.hid hb
      clear hb VT
      go_wp2_with fail
      refine (VL.out w1 B1.out).mono ?_
      rintro e w2 ⟨rfl, hb⟩
      have B2 := Lib.hid (B1.out.trans (hb.mono B1.out.size))
      clear hb VL B1
      go_wp2_with fail
      go_loopg [8] n (fun g si wq => ∃ (j : Nat), j ≤ n ∧ g = n - j ∧ si = .int .i64 j ∧ (xs.take j).all (fun x => holdsB x ls) = true ∧ Below w.heap.size w wq)
      case atStart => exact ⟨0, Nat.zero_le _, rfl, rfl, rfl, B2.out⟩
      case round =>
        obtain ⟨j, hj, hg, rfl, hall, hb⟩ := hrel
        have R : Aside (gk = n - j ∧ (xs.take j).all (fun x => holdsB x ls) = true ∧ Below w.heap.size w wr) := ⟨hg, hall, hb⟩
        clear hg hall hb
        by_cases hlt2 : j < n
        · have hlt2' : (j : Int) < (n : Int) := by omega
          obtain ⟨b, off, rfl, x, hx, ex, hat, c0, c1, c2⟩ := trms_at (V.out.below R.out.2.2) j (by rw [← HN.out]; exact hlt2)
          have EX := Lib.hid (And.intro ex hx)
          have HX := Lib.hid (refHolds_any x vl ls wr hat (L.out.below R.out.2.2) (NV.out x hx))
          obtain ⟨av, cv, ev, _, _⟩ := hat.1.len
          obtain ⟨q, hq⟩ : ∃ q, q = x.ts.length := ⟨_, rfl⟩
          obtain ⟨hb', hhb⟩ : ∃ z, z = holdsB x ls := ⟨_, rfl⟩
          rw [← hhb] at HX
          have HH := Lib.hid hhb
          unfold Trm.cells at HX
          obtain ⟨key, hkey⟩ : ∃ key, key = x.key := ⟨_, rfl⟩
          obtain ⟨how, hhow⟩ : ∃ how, how = x.how := ⟨_, rfl⟩
          rw [← hq] at ev
          rw [ev] at c2 HX
          rw [← hkey] at c0 HX
          rw [← hhow] at c1 HX
          clear ex hx hat ev hq hkey hhow hhb
          go_wp2_with fail
          refine HX.out.mono ?_
          rintro e w5 ⟨rfl, hb⟩
          have B5 := Lib.hid (R.out.2.2.trans (hb.mono R.out.2.2.size))
          clear hb c0 c1 c2
          cases hb' with
          | false =>
            have hn : Hid (xs.all (fun x => holdsB x ls) = false) := Lib.hid (by
              rw [List.all_eq_false]
              exact ⟨x, EX.out.2, by rw [← HH.out]; exact Bool.false_ne_true⟩)
            go_wp2_with fail
            go_ret2
            exact ⟨by rw [hr.out, hn.out]; rfl, B5.out⟩
          | true =>
            go_wp2_with fail
            go_roundg (n - (j + 1))
            case measure => have := R.out.1; omega
            case rel =>
              refine ⟨j + 1, by omega, rfl, by go_num, ?_, B5.out⟩
              rw [take_one xs j _ (by rw [← HN.out]; exact hlt2), List.all_append, R.out.2.1, EX.out.1]
              simp [← HH.out]
        · have hge : decide ((j : Int) < (n : Int)) = false := decide_eq_false (by omega)
          have hy : Hid (xs.all (fun x => holdsB x ls) = true) := Lib.hid (by
            have h := R.out.2.1
            rw [List.take_of_length_le (by rw [← HN.out]; omega)] at h
            exact h)
          go_wp2_with fail
          go_ret2
          exact ⟨by rw [hr.out, hy.out]; rfl, R.out.2.2⟩
end Go.Proofs.YtofbnhffojapcaaDoor
