/-
  THE WALK of LabelTermsHold.
-/
import Derived.Test.YtofbnhffojapcaaDoorLblB
import Derived.Test.YtofbnhffojapcaaDoorFixed
namespace Go.Proofs.YtofbnhffojapcaaDoor
open Go.RowKit Go.Sort
theorem all_t3 {xs ys : List Trm} (h : ys.map t3 = xs.map t3) (ls : List Lbl) : ys.all (fun x => holdsB x ls) = xs.all (fun x => holdsB x ls) := by
  induction ys generalizing xs with
  | nil =>
    cases xs with
    | nil => rfl
    | cons x r => simp at h
  | cons y r ih =>
    cases xs with
    | nil => simp at h
    | cons x q =>
      rw [List.map_cons, List.map_cons, List.cons.injEq] at h
      rw [List.all_cons, List.all_cons, ih h.2, holds_t3 h.1]
theorem matchR_t3 {xs ys : List Trm} (h : ys.map t3 = xs.map t3) (ls : List Lbl) : matchR ys ls = matchR xs ls := by
  unfold matchR
  rw [← terms_t3, h, terms_t3, all_t3 h]
/-- The opposite term. -/
def flip (x : Trm) : Trm := ⟨x.key, if x.how = 0 then 1 else if x.how = 1 then 0 else if x.how = 2 then 3 else 2, x.vals, x.ts⟩
theorem match_one {x : Trm} {ls : List Lbl} (h : invalidB x = false) (hl : lblsB ls = true) : matchR [x] ls = (holdsB x ls, 0) := by
  unfold matchR
  rw [if_pos (by unfold termsB; simp [h]), if_pos hl]
  simp
theorem flip_ok {x : Trm} (h : invalidB x = false) : invalidB (flip x) = false := by
  obtain ⟨hn, hv⟩ := valid_parts h
  unfold invalidB flip
  rcases hv with ⟨h0 | h0, hv⟩ | ⟨h0 | h0, hv⟩ <;> simp [h0, hn, hv]
theorem flip_holds {x : Trm} (h : invalidB x = false) (ls : List Lbl) : holdsB (flip x) ls = !holdsB x ls := by
  obtain ⟨hn, hv⟩ := valid_parts h
  unfold holdsB flip namedB
  rcases hv with ⟨h0 | h0, hv⟩ | ⟨h0 | h0, hv⟩ <;> simp [h0]
/-- A term of one's own, in three cells. -/
def T3C (w : World) (b : Nat) (key : ByteArray) (how : Int) (vals : Value) : Prop := (w.cell? ⟨b, 0, none⟩ = some (.string key) ∧ w.cell? ⟨b, 1, none⟩ = some (.int .i64 how) ∧ w.cell? ⟨b, 2, none⟩ = some vals) ∧ w.frozen? ⟨b, 1, none⟩ = false
theorem T3C.below {w w' : World} {b : Nat} {key : ByteArray} {how : Int} {vals : Value} (h : T3C w b key how vals) (hb : Below w.heap.size w w') : T3C w' b key how vals :=
  ⟨⟨(hb.cell (block_lt_of_cell h.1.1)).trans h.1.1, (hb.cell (block_lt_of_cell h.1.2.1)).trans h.1.2.1, (hb.cell (block_lt_of_cell h.1.2.2)).trans h.1.2.2⟩, (hb.frozen (p := ⟨b, 1, none⟩) (block_lt_of_cell h.1.2.1)).trans h.2⟩
theorem trms_slice {w : World} {b off n cap k : Nat} {xs : List Trm} {x : Trm} (H : Trms w (.slice (some ⟨b, off, none⟩) n cap) xs) (hk : k < xs.length) (hx : xs.getD k ⟨⟨#[]⟩, 0, .slice none 0 0, []⟩ = x) : Trms w (.slice (some ⟨b, off + k * 3, none⟩) 1 (cap - k)) [x] := by
  obtain ⟨hat, a', cap', e', h1, h2, _, hc⟩ := H
  simp only [Value.slice.injEq] at e'
  obtain ⟨rfl, rfl, rfl⟩ := e'
  obtain ⟨b', off', ea, hcell⟩ := hc (by intro e; rw [e] at hk; simp at hk)
  cases ea
  have hm : x ∈ xs := by
    rw [← hx, List.getD_eq_getElem?_getD, List.getElem?_eq_getElem hk]
    exact List.getElem_mem hk
  refine ⟨fun y hy => ?_, _, cap - k, rfl, by simp only [List.length_singleton]; omega, by omega, (fun h => by cases h), fun _ => ⟨b, off + k * 3, rfl, fun j hj i u hu => ?_⟩⟩
  · simp only [List.mem_singleton] at hy
    subst hy
    exact hat _ hm
  · obtain rfl : j = 0 := by simpa using hj
    rw [Nat.zero_mul, Nat.add_zero]
    refine hcell k hk i u ?_
    rw [hx]
    exact hu
theorem trms_one (w : World) (x : Trm) (hx : x.At w) : Trms (w.alloc (.cells #[.string x.key, .int .i64 x.how, x.vals] 41)) (.slice (some ⟨w.heap.size, 0, none⟩) 1 1) [x] := by
  have hb : Below w.heap.size w (w.alloc (.cells #[.string x.key, .int .i64 x.how, x.vals] 41)) := (Below.refl _ w).alloc (Nat.le_refl _) _
  refine ⟨fun y hy => ?_, _, 1, rfl, by simp, by decide, (fun h => by cases h), fun _ => ⟨w.heap.size, 0, rfl, fun j hj i u hu => ?_⟩⟩
  · simp only [List.mem_singleton] at hy
    subst hy
    exact hx.below hb
  · obtain rfl : j = 0 := by simpa using hj
    rw [World.cell?_alloc_new, ← Array.getElem?_toList, Nat.zero_mul, Nat.zero_add]
    exact hu
theorem contains_step (ts : List ByteArray) (k : Nat) (hk : k < ts.length) (v : ByteArray) : Lib.containsS (ts.take (k + 1)) v = (Lib.containsS (ts.take k) v || ((ts.getD k ⟨#[]⟩).toList == v.toList)) := by
  rw [Bool.eq_iff_iff, Bool.or_eq_true, Lib.containsS_iff, Lib.containsS_iff, take_one ts k ⟨#[]⟩ hk, List.mem_append, List.mem_singleton, beq_iff_eq, list_of_bytes, list_of_bytes]
  constructor
  · rintro (h | h)
    · exact .inl h
    · exact .inr (by rw [h])
  · rintro (h | h)
    · exact .inl h
    · exact .inr (by rw [← bys_data v, ← h, bys_data])
set_option maxHeartbeats 16000000 in
set_option maxRecDepth 100000 in
theorem labelTermsHold_walk (v : Value) (xs : List Trm) (vl : Value) (ls : List Lbl) (w : World) (hm : HasM w) (hv : Trms w v xs) (hs : xs.length * 48 ≤ 140737488351232 ∧ ∀ x ∈ xs, x.ts.length * 16 ≤ 140737488351232 ∧ (-9223372036854775808 ≤ x.how ∧ x.how ≤ 9223372036854775807) ∧ x.key.size ≤ 140737488351232) (hl : Lbls w vl ls) (hls : ls.length * 32 ≤ 140737488351232) :
    Calls Tryd.prog 5 #[v, vl] w fun e w' => e = .returned (.bool true) ∧ Below w.heap.size w w' := by
  have FX := Lib.hid (fixed_ok w hm)
  have V := Lib.hid hv
  have L := Lib.hid hl
  have LL : Hid (ls.length * 32 ≤ 140737488355328) := Lib.hid (by omega)
  have OW : Hid (∀ (u : Value) (ys : List Trm) W, Trms W u ys → ys.length * 48 ≤ 140737488351232 → (∀ y ∈ ys, y.ts.length * 16 ≤ 140737488355328) → Calls Tryd.prog 12 #[u] W fun e w' => ∃ v' zs, e = .returned v' ∧ zs.map t3 = ys.map t3 ∧ Copied W.heap.size w' v' zs ∧ Below W.heap.size W w') := Lib.hid fun u ys W h1 h2 h3 => own_any u ys W h1 h2 h3
  have S := Lib.hid (And.intro hs.1 fun (x : Trm) hx => show x.ts.length * 16 ≤ 140737488355328 by have := (hs.2 x hx).1; omega)
  obtain ⟨_, a, cap, rfl, hlc, hcm, _, _⟩ := hv
  obtain ⟨al, cl, rfl, hlcl, hcml⟩ := hl.len
  unfold maxLen at hcm hcml
  obtain ⟨n, hn⟩ : ∃ n, n = xs.length := ⟨_, rfl⟩
  obtain ⟨m, hmm⟩ : ∃ m, m = ls.length := ⟨_, rfl⟩
  rw [← hn] at hlc V ⊢
  rw [← hmm] at hlcl L ⊢
  have HN := Lib.hid hn
  clear hm hs hl hls hn hmm
  go_enter Tryd.func5, Tryd.ntmps5
  go_wp2_with fail
  refine FX.out.mono ?_
  rintro r w1 ⟨rfl, hb⟩
  have B1 := Lib.hid hb
  clear hb FX
  go_wp2_with fail
  refine (OW.out _ xs w1 (V.out.below B1.out) S.out.1 S.out.2).mono ?_
  rintro e w2 ⟨v2, ys, rfl, h3, hc, hb⟩
  have B2 := Lib.hid (B1.out.trans (hb.mono B1.out.size))
  have Y2 := Lib.hid (And.intro h3 hc.trms)
  have L2 := Lib.hid (L.out.below B2.out)
  clear hb h3 hc B1
  go_wp2_with (at_builtin; refine app_lbls rfl _ _ rfl rfl L2.out rfl LL.out ?_)
  intro vl3 w3 ol hb
  have B3 := Lib.hid (B2.out.trans (hb.mono B2.out.size))
  have MA := Lib.hid (match_any v2 vl3 ys ls w3 (Y2.out.2.below hb) ol.lbls)
  rw [matchR_t3 Y2.out.1 ls] at MA
  clear hb ol B2 L2 Y2
  go_wp2_with fail
  refine MA.out.mono ?_
  rintro e w4 ⟨rfl, hb⟩
  have B4 := Lib.hid (B3.out.trans (hb.mono B3.out.size))
  clear hb MA B3
  cases hT : termsB xs with
  | false =>
    have hr : matchR xs ls = (false, 43) := by unfold matchR; rw [hT]; rfl
    rw [hr]
    clear hr hT
    go_wp2_with fail
    go_ret
    exact ⟨rfl, B4.out⟩
  | true =>
    cases hK : lblsB ls with
    | false =>
      have hr : matchR xs ls = (false, 42) := by unfold matchR; rw [hT, hK]; rfl
      rw [hr]
      clear hr hT hK
      go_wp2_with fail
      go_ret
      exact ⟨rfl, B4.out⟩
    | true =>
      have hr : matchR xs ls = (xs.all (fun x => holdsB x ls), 0) := by unfold matchR; rw [hT, hK]; rfl
      rw [hr]
      have NV : Hid (∀ x ∈ xs, invalidB x = false) := Lib.hid (by
        unfold termsB at hT
        simp only [Bool.and_eq_true, decide_eq_true_eq, Bool.not_eq_true', List.any_eq_false] at hT
        intro x hx
        simpa using hT.2 x hx)
      have OKL := Lib.hid hK
      obtain ⟨allb, hallb⟩ : ∃ z, z = xs.all (fun x => holdsB x ls) := ⟨_, rfl⟩
      rw [← hallb]
      have AB := Lib.hid hallb
      clear hr hT hK hallb
      go_wp2_with fail
      go_loopg [8, 9] n (fun g sw si wr => ∃ (k : Nat), k ≤ n ∧ g = n - k ∧ sw = .bool ((xs.take k).all (fun x => holdsB x ls)) ∧ si = .int .i64 k ∧ Below w.heap.size w wr)
      case atStart => exact ⟨0, Nat.zero_le _, rfl, rfl, rfl, B4.out⟩
      case round =>
        obtain ⟨k, hk, hg, rfl, rfl, hb⟩ := hrel
        have R : Aside (gk = n - k ∧ Below w.heap.size w wr) := ⟨hg, hb⟩
        clear hg hb
        obtain ⟨wb, hwb⟩ : ∃ z, z = (xs.take k).all (fun x => holdsB x ls) := ⟨_, rfl⟩
        rw [← hwb]
        have WB := Lib.hid hwb
        clear hwb
        by_cases hlt : k < n
        · have hlt' : (k : Int) < (n : Int) := by omega
          obtain ⟨b, off, rfl, x, hx, ex, hat, c0, c1, c2⟩ := trms_at (V.out.below R.out.2) k (by rw [← HN.out]; exact hlt)
          have IX := Lib.hid (NV.out x hx)
          have EX := Lib.hid ex
          have SX := Lib.hid (S.out.2 x hx)
          obtain ⟨av, cv, ev, hcv1, hcv2⟩ := hat.1.len
          have HAT := Lib.hid hat
          have HATW := Lib.hid (V.out.1 x hx)
          obtain ⟨key, how, vals, ts⟩ := x
          simp only at ev c0 c1 c2 SX hcv1
          subst ev
          obtain ⟨q, hq⟩ : ∃ q, q = ts.length := ⟨_, rfl⟩
          rw [← hq] at c2 HAT HATW EX IX hcv1
          have QQ := Lib.hid hq
          unfold maxLen at hcv2
          have VV := Lib.hid fun W (hb : Below w.heap.size w W) => lawValue_any (.slice al m cl) ls key W (L.out.below hb)
          obtain ⟨X, hX⟩ : ∃ X, X = wr.alloc (.cells #[.string key, .int .i64 how, .slice av q cv] 41) := ⟨_, rfl⟩
          have AX : Hid (Below wr.heap.size wr X) := Lib.hid (by rw [hX]; exact (Below.refl _ wr).alloc (Nat.le_refl _) _)
          have b0 : X.cell? ⟨wr.heap.size, 0, none⟩ = some (.string key) := by rw [hX, World.cell?_alloc_new]; rfl
          have b1 : X.cell? ⟨wr.heap.size, 1, none⟩ = some (.int .i64 how) := by rw [hX, World.cell?_alloc_new]; rfl
          have b2 : X.cell? ⟨wr.heap.size, 2, none⟩ = some (.slice av q cv) := by rw [hX, World.cell?_alloc_new]; rfl
          have TC : Hid (T3C X wr.heap.size key how (.slice av q cv)) := Lib.hid ⟨⟨b0, b1, b2⟩, by rw [hX]; simp⟩
          have BX := Lib.hid (R.out.2.trans (AX.out.mono R.out.2.size))
          have hX' := hX.symm
          clear hX hat hx ex hq
          go_wp2_with fail
          refine (VV.out X BX.out).mono ?_
          rintro e w5 ⟨rfl, hb⟩
          have B5 := Lib.hid (BX.out.trans (hb.mono BX.out.size))
          have T5 := Lib.hid (TC.out.below hb)
          have A5 := Lib.hid (AX.out.trans (hb.mono AX.out.size))
          clear hb VV TC b0 b1 b2 hX' c0 c1 c2 BX
          obtain ⟨⟨vv, there⟩, hvt⟩ : ∃ r, r = valR ls key.data.toList := ⟨_, rfl⟩
          rw [← hvt]
          have VT := Lib.hid hvt
          clear hvt
          simp only
          obtain ⟨tb, htb⟩ : ∃ tb, tb = wr.heap.size := ⟨_, rfl⟩
          have TB := Lib.hid (show w.heap.size ≤ tb by rw [htb]; exact R.out.2.size)
          have H5 := Lib.hid (HAT.out.1.below A5.out)
          rw [← htb] at T5 ⊢
          clear htb A5
          go_wp2_with fail
          go_loopg [13, 14] q (fun g sn sj wq => ∃ (j : Nat), j ≤ q ∧ g = q - j ∧ sn = .bool (there && Lib.containsS (ts.take j) vv) ∧ sj = .int .i64 j ∧ Below w5.heap.size w5 wq)
          case atStart => exact ⟨0, Nat.zero_le _, rfl, by rw [List.take_zero, show Lib.containsS [] vv = false from rfl, Bool.and_false], rfl, Below.refl _ _⟩
          case round =>
            obtain ⟨j, hj, hg2, rfl, rfl, hb2⟩ := hrel
            have R2 : Aside (gk = q - j ∧ Below w5.heap.size w5 wr) := ⟨hg2, hb2⟩
            clear hg2 hb2
            obtain ⟨⟨d0, d1, d2⟩, df⟩ := T5.out.below R2.out.2
            by_cases hjq : j < q
            · have hjq' : (j : Int) < (q : Int) := by omega
              obtain ⟨bv, ov, rfl, pv⟩ := (H5.out.below R2.out.2).at j (by rw [← QQ.out]; exact hjq)
              obtain ⟨u, hu⟩ : ∃ u, u = ts.getD j ⟨#[]⟩ := ⟨_, rfl⟩
              rw [← hu] at pv
              have CS : Hid (Lib.containsS (ts.take (j + 1)) vv = (Lib.containsS (ts.take j) vv || (u.toList == vv.toList))) := Lib.hid (by
                rw [hu]
                exact contains_step ts j (by rw [← QQ.out]; exact hjq) vv)
              clear hu
              cases there with
              | false =>
                rw [Bool.false_and]
                go_wp2_with fail
                go_roundg (q - (j + 1))
                case measure => have := R2.out.1; omega
                case rel => exact ⟨j + 1, by omega, rfl, rfl, by go_num, R2.out.2⟩
              | true =>
                rw [Bool.true_and]
                cases hcs : Lib.containsS (ts.take j) vv with
                | true =>
                  rw [hcs, Bool.true_or] at CS
                  go_wp2_with fail
                  go_roundg (q - (j + 1))
                  case measure => have := R2.out.1; omega
                  case rel => exact ⟨j + 1, by omega, rfl, by rw [CS.out]; rfl, by go_num, R2.out.2⟩
                | false =>
                  rw [hcs, Bool.false_or] at CS
                  obtain ⟨ub, hub⟩ : ∃ ub, (u.toList == vv.toList) = ub := ⟨_, rfl⟩
                  rw [hub] at CS
                  go_wp2_with fail
                  go_roundg (q - (j + 1))
                  case measure => have := R2.out.1; omega
                  case rel => exact ⟨j + 1, by omega, rfl, by rw [CS.out]; rfl, by go_num, R2.out.2⟩
            · have hgq : decide ((j : Int) < (q : Int)) = false := decide_eq_false (by omega)
              have hnm : (there && Lib.containsS (ts.take j) vv) = namedB ⟨key, how, .slice av q cv, ts⟩ ls := by
                rw [List.take_of_length_le (by rw [← QQ.out]; omega)]
                have h := VT.out
                unfold valR at h
                unfold namedB
                simp only
                cases hv : valOf ls key.data.toList with
                | none => rw [hv] at h; simp only [Prod.mk.injEq] at h; rw [h.2]; rfl
                | some z => rw [hv] at h; simp only [Prod.mk.injEq] at h; rw [h.2, h.1]; rfl
              have hth : there = (valOf ls key.data.toList).isSome := by
                have h := VT.out
                unfold valR at h
                cases hv : valOf ls key.data.toList with
                | none => rw [hv] at h; simp only [Prod.mk.injEq] at h; rw [h.2]; rfl
                | some z => rw [hv] at h; simp only [Prod.mk.injEq] at h; rw [h.2]; rfl
              rw [hnm]
              obtain ⟨nb, hnb⟩ : ∃ nb, nb = namedB ⟨key, how, .slice av q cv, ts⟩ ls := ⟨_, rfl⟩
              rw [← hnb]
              have NT := Lib.hid (And.intro hnb hth)
              have BQ := Lib.hid (B5.out.trans (R2.out.2.mono B5.out.size))
              have HW : Hid ((how = 0 ∨ how = 1) ∨ how = 2 ∨ how = 3) := Lib.hid (by
                rcases (valid_parts IX.out).2 with ⟨h, _⟩ | ⟨h, _⟩
                · exact .inl h
                · exact .inr h)
              have XA := Lib.hid ((H5.out.below R2.out.2))
              clear hnm hth hnb
              rcases HW.out with (h0 | h0) | h0 | h0
              · subst h0
                have HB : Hid (holdsB ⟨key, 0, .slice av q cv, ts⟩ ls = nb) := Lib.hid (by rw [NT.out.1]; unfold holdsB; cases namedB ⟨key, 0, .slice av q cv, ts⟩ ls <;> rfl)
                have FB : Hid (holdsB (flip ⟨key, 0, .slice av q cv, ts⟩) ls = !nb) := Lib.hid (by rw [flip_holds IX.out, HB.out])
                have X1 := Lib.hid (trms_slice (V.out.below BQ.out) (k := k) (by rw [← HN.out]; exact hlt) EX.out)
                clear HW T5 H5 B5
                go_wp2_with fail
                refine (OW.out _ [⟨key, 0, .slice av q cv, ts⟩] wr X1.out (by simp) (by
                  intro y hy
                  simp only [List.mem_singleton] at hy
                  subst hy
                  exact SX.out)).mono ?_
                rintro e wa ⟨va, za, rfl, h3, hc, hb⟩
                have BA := Lib.hid (BQ.out.trans (hb.mono BQ.out.size))
                have TA : Hid (T3C wa tb key 0 (.slice av q cv)) := Lib.hid ((show T3C wr tb key 0 (.slice av q cv) from ⟨⟨d0, d1, d2⟩, df⟩).below hb)
                have LA := Lib.hid (L.out.below BA.out)
                have YA := Lib.hid (And.intro h3 hc.trms)
                clear hb h3 hc d0 d1 d2 df X1 XA
                go_wp2_with (at_builtin; refine app_lbls rfl _ _ rfl rfl LA.out rfl LL.out ?_)
                intro vb wb2 ob hb
                have BB := Lib.hid (BA.out.trans (hb.mono BA.out.size))
                have TBB := Lib.hid (TA.out.below hb)
                have MB := Lib.hid (match_any va vb za ls wb2 (YA.out.2.below hb) ob.lbls)
                rw [matchR_t3 YA.out.1 ls, match_one IX.out OKL.out, HB.out] at MB
                clear hb ob TA LA YA BA
                go_wp2_with fail
                refine MB.out.mono ?_
                rintro e wc ⟨rfl, hb⟩
                have BC := Lib.hid (BB.out.trans (hb.mono BB.out.size))
                obtain ⟨⟨d0, d1, d2⟩, df⟩ := TBB.out.below hb
                clear hb MB BB TBB
                obtain ⟨wd, hwd⟩ : ∃ W, W = wc.setCell ⟨tb, 1, none⟩ (.int .i64 1) := ⟨_, rfl⟩
                have e0 : wd.cell? ⟨tb, 0, none⟩ = some (.string key) := by rw [hwd, World.cell?_setCell_other _ _ _ _ (by intro h; injection h; omega)]; exact d0
                have e1 : wd.cell? ⟨tb, 1, none⟩ = some (.int .i64 1) := by rw [hwd]; exact World.cell?_setCell_same' _ _ _ (by rw [d1]; rfl)
                have e2 : wd.cell? ⟨tb, 2, none⟩ = some (.slice av q cv) := by rw [hwd, World.cell?_setCell_other _ _ _ _ (by intro h; injection h; omega)]; exact d2
                have BD : Hid (Below w.heap.size w wd) := Lib.hid (by rw [hwd]; exact BC.out.setCell (p := ⟨tb, 1, none⟩) TB.out _)
                obtain ⟨we, hwe⟩ : ∃ W, W = wd.alloc (.cells #[.string key, .int .i64 1, .slice av q cv] 41) := ⟨_, rfl⟩
                have X2 : Hid (Trms we (.slice (some ⟨wd.heap.size, 0, none⟩) 1 1) [flip ⟨key, 0, .slice av q cv, ts⟩]) := Lib.hid (by
                  rw [hwe]
                  exact trms_one wd (flip ⟨key, 0, .slice av q cv, ts⟩) (HATW.out.below BD.out))
                have BE : Hid (Below w.heap.size w we) := Lib.hid (by rw [hwe]; exact BD.out.alloc BD.out.size _)
                have xo : bits BinOp.xor IntKind.i64 0 1 = 1 := by kernel_rfl
                have hwd' := hwd.symm
                have hwe' := hwe.symm
                clear hwd hwe BC
                go_wp2_with fail
                refine (OW.out _ [flip ⟨key, 0, .slice av q cv, ts⟩] we X2.out (by simp) (by
                  intro y hy
                  simp only [List.mem_singleton] at hy
                  subst hy
                  exact SX.out)).mono ?_
                rintro e wf ⟨vf, zf, rfl, h3, hc, hb⟩
                have BF := Lib.hid (BE.out.trans (hb.mono BE.out.size))
                have LF := Lib.hid (L.out.below BF.out)
                have YF := Lib.hid (And.intro h3 hc.trms)
                clear hb h3 hc X2 d0 d1 d2 df e0 e1 e2 hwd' hwe' BE BD xo
                go_wp2_with (at_builtin; refine app_lbls rfl _ _ rfl rfl LF.out rfl LL.out ?_)
                intro vg wg og hb
                have BG := Lib.hid (BF.out.trans (hb.mono BF.out.size))
                have MG := Lib.hid (match_any vf vg zf ls wg (YF.out.2.below hb) og.lbls)
                rw [matchR_t3 YF.out.1 ls, match_one (flip_ok IX.out) OKL.out, FB.out] at MG
                clear hb og LF YF BF
                go_wp2_with fail
                refine MG.out.mono ?_
                rintro e wh ⟨rfl, hb⟩
                have BH := Lib.hid (BG.out.trans (hb.mono BG.out.size))
                clear hb MG BG
                have z1 : (nb != nb) = false := by simp
                have z2 : ((!nb) == nb) = false := by cases nb <;> rfl
                have ST : Hid ((xs.take (k + 1)).all (fun x => holdsB x ls) = (wb && nb)) := Lib.hid (by
                  rw [take_one xs k _ (by rw [← HN.out]; exact hlt), List.all_append, ← WB.out, EX.out]
                  simp [HB.out])
                cases wb with
                | true =>
                  go_wp2_with fail
                  go_roundg (n - (k + 1))
                  case measure => have := R.out.1; omega
                  case rel => exact ⟨k + 1, by omega, rfl, by rw [ST.out]; rfl, by go_num, BH.out⟩
                | false =>
                  go_wp2_with fail
                  go_roundg (n - (k + 1))
                  case measure => have := R.out.1; omega
                  case rel => exact ⟨k + 1, by omega, rfl, by rw [ST.out]; rfl, by go_num, BH.out⟩
              · subst h0
                obtain ⟨z, hz⟩ : ∃ z, (!nb) = z := ⟨_, rfl⟩
                have HB : Hid (holdsB ⟨key, 1, .slice av q cv, ts⟩ ls = z) := Lib.hid (by rw [← hz, NT.out.1]; unfold holdsB; cases namedB ⟨key, 1, .slice av q cv, ts⟩ ls <;> rfl)
                have FB : Hid (holdsB (flip ⟨key, 1, .slice av q cv, ts⟩) ls = !z) := Lib.hid (by rw [flip_holds IX.out, HB.out])
                have X1 := Lib.hid (trms_slice (V.out.below BQ.out) (k := k) (by rw [← HN.out]; exact hlt) EX.out)
                clear HW T5 H5 B5
                go_wp2_with fail
                refine (OW.out _ [⟨key, 1, .slice av q cv, ts⟩] wr X1.out (by simp) (by
                  intro y hy
                  simp only [List.mem_singleton] at hy
                  subst hy
                  exact SX.out)).mono ?_
                rintro e wa ⟨va, za, rfl, h3, hc, hb⟩
                have BA := Lib.hid (BQ.out.trans (hb.mono BQ.out.size))
                have TA : Hid (T3C wa tb key 1 (.slice av q cv)) := Lib.hid ((show T3C wr tb key 1 (.slice av q cv) from ⟨⟨d0, d1, d2⟩, df⟩).below hb)
                have LA := Lib.hid (L.out.below BA.out)
                have YA := Lib.hid (And.intro h3 hc.trms)
                clear hb h3 hc d0 d1 d2 df X1 XA
                go_wp2_with (at_builtin; refine app_lbls rfl _ _ rfl rfl LA.out rfl LL.out ?_)
                intro vb wb2 ob hb
                have BB := Lib.hid (BA.out.trans (hb.mono BA.out.size))
                have TBB := Lib.hid (TA.out.below hb)
                have MB := Lib.hid (match_any va vb za ls wb2 (YA.out.2.below hb) ob.lbls)
                rw [matchR_t3 YA.out.1 ls, match_one IX.out OKL.out, HB.out] at MB
                clear hb ob TA LA YA BA
                go_wp2_with fail
                refine MB.out.mono ?_
                rintro e wc ⟨rfl, hb⟩
                have BC := Lib.hid (BB.out.trans (hb.mono BB.out.size))
                obtain ⟨⟨d0, d1, d2⟩, df⟩ := TBB.out.below hb
                clear hb MB BB TBB
                obtain ⟨wd, hwd⟩ : ∃ W, W = wc.setCell ⟨tb, 1, none⟩ (.int .i64 0) := ⟨_, rfl⟩
                have e0 : wd.cell? ⟨tb, 0, none⟩ = some (.string key) := by rw [hwd, World.cell?_setCell_other _ _ _ _ (by intro h; injection h; omega)]; exact d0
                have e1 : wd.cell? ⟨tb, 1, none⟩ = some (.int .i64 0) := by rw [hwd]; exact World.cell?_setCell_same' _ _ _ (by rw [d1]; rfl)
                have e2 : wd.cell? ⟨tb, 2, none⟩ = some (.slice av q cv) := by rw [hwd, World.cell?_setCell_other _ _ _ _ (by intro h; injection h; omega)]; exact d2
                have BD : Hid (Below w.heap.size w wd) := Lib.hid (by rw [hwd]; exact BC.out.setCell (p := ⟨tb, 1, none⟩) TB.out _)
                obtain ⟨we, hwe⟩ : ∃ W, W = wd.alloc (.cells #[.string key, .int .i64 0, .slice av q cv] 41) := ⟨_, rfl⟩
                have X2 : Hid (Trms we (.slice (some ⟨wd.heap.size, 0, none⟩) 1 1) [flip ⟨key, 1, .slice av q cv, ts⟩]) := Lib.hid (by
                  rw [hwe]
                  exact trms_one wd (flip ⟨key, 1, .slice av q cv, ts⟩) (HATW.out.below BD.out))
                have BE : Hid (Below w.heap.size w we) := Lib.hid (by rw [hwe]; exact BD.out.alloc BD.out.size _)
                have xo : bits BinOp.xor IntKind.i64 1 1 = 0 := by kernel_rfl
                have hwd' := hwd.symm
                have hwe' := hwe.symm
                clear hwd hwe BC
                go_wp2_with fail
                refine (OW.out _ [flip ⟨key, 1, .slice av q cv, ts⟩] we X2.out (by simp) (by
                  intro y hy
                  simp only [List.mem_singleton] at hy
                  subst hy
                  exact SX.out)).mono ?_
                rintro e wf ⟨vf, zf, rfl, h3, hc, hb⟩
                have BF := Lib.hid (BE.out.trans (hb.mono BE.out.size))
                have LF := Lib.hid (L.out.below BF.out)
                have YF := Lib.hid (And.intro h3 hc.trms)
                clear hb h3 hc X2 d0 d1 d2 df e0 e1 e2 hwd' hwe' BE BD xo
                go_wp2_with (at_builtin; refine app_lbls rfl _ _ rfl rfl LF.out rfl LL.out ?_)
                intro vg wg og hb
                have BG := Lib.hid (BF.out.trans (hb.mono BF.out.size))
                have MG := Lib.hid (match_any vf vg zf ls wg (YF.out.2.below hb) og.lbls)
                rw [matchR_t3 YF.out.1 ls, match_one (flip_ok IX.out) OKL.out, FB.out] at MG
                clear hb og LF YF BF
                go_wp2_with fail
                refine MG.out.mono ?_
                rintro e wh ⟨rfl, hb⟩
                have BH := Lib.hid (BG.out.trans (hb.mono BG.out.size))
                clear hb MG BG
                have z1 : (z != z) = false := by simp
                have z2 : ((!z) == z) = false := by cases z <;> rfl
                have ST : Hid ((xs.take (k + 1)).all (fun x => holdsB x ls) = (wb && z)) := Lib.hid (by
                  rw [take_one xs k _ (by rw [← HN.out]; exact hlt), List.all_append, ← WB.out, EX.out]
                  simp [HB.out])
                cases wb with
                | true =>
                  go_wp2_with fail
                  go_roundg (n - (k + 1))
                  case measure => have := R.out.1; omega
                  case rel => exact ⟨k + 1, by omega, rfl, by rw [ST.out]; rfl, by go_num, BH.out⟩
                | false =>
                  go_wp2_with fail
                  go_roundg (n - (k + 1))
                  case measure => have := R.out.1; omega
                  case rel => exact ⟨k + 1, by omega, rfl, by rw [ST.out]; rfl, by go_num, BH.out⟩
              · subst h0
                have HB : Hid (holdsB ⟨key, 2, .slice av q cv, ts⟩ ls = there) := Lib.hid (by rw [NT.out.2]; rfl)
                have FB : Hid (holdsB (flip ⟨key, 2, .slice av q cv, ts⟩) ls = !there) := Lib.hid (by rw [flip_holds IX.out, HB.out])
                have X1 := Lib.hid (trms_slice (V.out.below BQ.out) (k := k) (by rw [← HN.out]; exact hlt) EX.out)
                clear HW T5 H5 B5
                go_wp2_with fail
                refine (OW.out _ [⟨key, 2, .slice av q cv, ts⟩] wr X1.out (by simp) (by
                  intro y hy
                  simp only [List.mem_singleton] at hy
                  subst hy
                  exact SX.out)).mono ?_
                rintro e wa ⟨va, za, rfl, h3, hc, hb⟩
                have BA := Lib.hid (BQ.out.trans (hb.mono BQ.out.size))
                have TA : Hid (T3C wa tb key 2 (.slice av q cv)) := Lib.hid ((show T3C wr tb key 2 (.slice av q cv) from ⟨⟨d0, d1, d2⟩, df⟩).below hb)
                have LA := Lib.hid (L.out.below BA.out)
                have YA := Lib.hid (And.intro h3 hc.trms)
                clear hb h3 hc d0 d1 d2 df X1 XA
                go_wp2_with (at_builtin; refine app_lbls rfl _ _ rfl rfl LA.out rfl LL.out ?_)
                intro vb wb2 ob hb
                have BB := Lib.hid (BA.out.trans (hb.mono BA.out.size))
                have TBB := Lib.hid (TA.out.below hb)
                have MB := Lib.hid (match_any va vb za ls wb2 (YA.out.2.below hb) ob.lbls)
                rw [matchR_t3 YA.out.1 ls, match_one IX.out OKL.out, HB.out] at MB
                clear hb ob TA LA YA BA
                go_wp2_with fail
                refine MB.out.mono ?_
                rintro e wc ⟨rfl, hb⟩
                have BC := Lib.hid (BB.out.trans (hb.mono BB.out.size))
                obtain ⟨⟨d0, d1, d2⟩, df⟩ := TBB.out.below hb
                clear hb MB BB TBB
                obtain ⟨wd, hwd⟩ : ∃ W, W = wc.setCell ⟨tb, 1, none⟩ (.int .i64 3) := ⟨_, rfl⟩
                have e0 : wd.cell? ⟨tb, 0, none⟩ = some (.string key) := by rw [hwd, World.cell?_setCell_other _ _ _ _ (by intro h; injection h; omega)]; exact d0
                have e1 : wd.cell? ⟨tb, 1, none⟩ = some (.int .i64 3) := by rw [hwd]; exact World.cell?_setCell_same' _ _ _ (by rw [d1]; rfl)
                have e2 : wd.cell? ⟨tb, 2, none⟩ = some (.slice av q cv) := by rw [hwd, World.cell?_setCell_other _ _ _ _ (by intro h; injection h; omega)]; exact d2
                have BD : Hid (Below w.heap.size w wd) := Lib.hid (by rw [hwd]; exact BC.out.setCell (p := ⟨tb, 1, none⟩) TB.out _)
                obtain ⟨we, hwe⟩ : ∃ W, W = wd.alloc (.cells #[.string key, .int .i64 3, .slice av q cv] 41) := ⟨_, rfl⟩
                have X2 : Hid (Trms we (.slice (some ⟨wd.heap.size, 0, none⟩) 1 1) [flip ⟨key, 2, .slice av q cv, ts⟩]) := Lib.hid (by
                  rw [hwe]
                  exact trms_one wd (flip ⟨key, 2, .slice av q cv, ts⟩) (HATW.out.below BD.out))
                have BE : Hid (Below w.heap.size w we) := Lib.hid (by rw [hwe]; exact BD.out.alloc BD.out.size _)
                have xo : bits BinOp.xor IntKind.i64 2 1 = 3 := by kernel_rfl
                have hwd' := hwd.symm
                have hwe' := hwe.symm
                clear hwd hwe BC
                go_wp2_with fail
                refine (OW.out _ [flip ⟨key, 2, .slice av q cv, ts⟩] we X2.out (by simp) (by
                  intro y hy
                  simp only [List.mem_singleton] at hy
                  subst hy
                  exact SX.out)).mono ?_
                rintro e wf ⟨vf, zf, rfl, h3, hc, hb⟩
                have BF := Lib.hid (BE.out.trans (hb.mono BE.out.size))
                have LF := Lib.hid (L.out.below BF.out)
                have YF := Lib.hid (And.intro h3 hc.trms)
                clear hb h3 hc X2 d0 d1 d2 df e0 e1 e2 hwd' hwe' BE BD xo
                go_wp2_with (at_builtin; refine app_lbls rfl _ _ rfl rfl LF.out rfl LL.out ?_)
                intro vg wg og hb
                have BG := Lib.hid (BF.out.trans (hb.mono BF.out.size))
                have MG := Lib.hid (match_any vf vg zf ls wg (YF.out.2.below hb) og.lbls)
                rw [matchR_t3 YF.out.1 ls, match_one (flip_ok IX.out) OKL.out, FB.out] at MG
                clear hb og LF YF BF
                go_wp2_with fail
                refine MG.out.mono ?_
                rintro e wh ⟨rfl, hb⟩
                have BH := Lib.hid (BG.out.trans (hb.mono BG.out.size))
                clear hb MG BG
                have z1 : (there != there) = false := by simp
                have z2 : ((!there) == there) = false := by cases there <;> rfl
                have ST : Hid ((xs.take (k + 1)).all (fun x => holdsB x ls) = (wb && there)) := Lib.hid (by
                  rw [take_one xs k _ (by rw [← HN.out]; exact hlt), List.all_append, ← WB.out, EX.out]
                  simp [HB.out])
                cases wb with
                | true =>
                  go_wp2_with fail
                  go_roundg (n - (k + 1))
                  case measure => have := R.out.1; omega
                  case rel => exact ⟨k + 1, by omega, rfl, by rw [ST.out]; rfl, by go_num, BH.out⟩
                | false =>
                  go_wp2_with fail
                  go_roundg (n - (k + 1))
                  case measure => have := R.out.1; omega
                  case rel => exact ⟨k + 1, by omega, rfl, by rw [ST.out]; rfl, by go_num, BH.out⟩
              · subst h0
                obtain ⟨z, hz⟩ : ∃ z, (!there) = z := ⟨_, rfl⟩
                have HB : Hid (holdsB ⟨key, 3, .slice av q cv, ts⟩ ls = z) := Lib.hid (by rw [← hz, NT.out.2]; rfl)
                have FB : Hid (holdsB (flip ⟨key, 3, .slice av q cv, ts⟩) ls = !z) := Lib.hid (by rw [flip_holds IX.out, HB.out])
                have X1 := Lib.hid (trms_slice (V.out.below BQ.out) (k := k) (by rw [← HN.out]; exact hlt) EX.out)
                clear HW T5 H5 B5
                go_wp2_with fail
                refine (OW.out _ [⟨key, 3, .slice av q cv, ts⟩] wr X1.out (by simp) (by
                  intro y hy
                  simp only [List.mem_singleton] at hy
                  subst hy
                  exact SX.out)).mono ?_
                rintro e wa ⟨va, za, rfl, h3, hc, hb⟩
                have BA := Lib.hid (BQ.out.trans (hb.mono BQ.out.size))
                have TA : Hid (T3C wa tb key 3 (.slice av q cv)) := Lib.hid ((show T3C wr tb key 3 (.slice av q cv) from ⟨⟨d0, d1, d2⟩, df⟩).below hb)
                have LA := Lib.hid (L.out.below BA.out)
                have YA := Lib.hid (And.intro h3 hc.trms)
                clear hb h3 hc d0 d1 d2 df X1 XA
                go_wp2_with (at_builtin; refine app_lbls rfl _ _ rfl rfl LA.out rfl LL.out ?_)
                intro vb wb2 ob hb
                have BB := Lib.hid (BA.out.trans (hb.mono BA.out.size))
                have TBB := Lib.hid (TA.out.below hb)
                have MB := Lib.hid (match_any va vb za ls wb2 (YA.out.2.below hb) ob.lbls)
                rw [matchR_t3 YA.out.1 ls, match_one IX.out OKL.out, HB.out] at MB
                clear hb ob TA LA YA BA
                go_wp2_with fail
                refine MB.out.mono ?_
                rintro e wc ⟨rfl, hb⟩
                have BC := Lib.hid (BB.out.trans (hb.mono BB.out.size))
                obtain ⟨⟨d0, d1, d2⟩, df⟩ := TBB.out.below hb
                clear hb MB BB TBB
                obtain ⟨wd, hwd⟩ : ∃ W, W = wc.setCell ⟨tb, 1, none⟩ (.int .i64 2) := ⟨_, rfl⟩
                have e0 : wd.cell? ⟨tb, 0, none⟩ = some (.string key) := by rw [hwd, World.cell?_setCell_other _ _ _ _ (by intro h; injection h; omega)]; exact d0
                have e1 : wd.cell? ⟨tb, 1, none⟩ = some (.int .i64 2) := by rw [hwd]; exact World.cell?_setCell_same' _ _ _ (by rw [d1]; rfl)
                have e2 : wd.cell? ⟨tb, 2, none⟩ = some (.slice av q cv) := by rw [hwd, World.cell?_setCell_other _ _ _ _ (by intro h; injection h; omega)]; exact d2
                have BD : Hid (Below w.heap.size w wd) := Lib.hid (by rw [hwd]; exact BC.out.setCell (p := ⟨tb, 1, none⟩) TB.out _)
                obtain ⟨we, hwe⟩ : ∃ W, W = wd.alloc (.cells #[.string key, .int .i64 2, .slice av q cv] 41) := ⟨_, rfl⟩
                have X2 : Hid (Trms we (.slice (some ⟨wd.heap.size, 0, none⟩) 1 1) [flip ⟨key, 3, .slice av q cv, ts⟩]) := Lib.hid (by
                  rw [hwe]
                  exact trms_one wd (flip ⟨key, 3, .slice av q cv, ts⟩) (HATW.out.below BD.out))
                have BE : Hid (Below w.heap.size w we) := Lib.hid (by rw [hwe]; exact BD.out.alloc BD.out.size _)
                have xo : bits BinOp.xor IntKind.i64 3 1 = 2 := by kernel_rfl
                have hwd' := hwd.symm
                have hwe' := hwe.symm
                clear hwd hwe BC
                go_wp2_with fail
                refine (OW.out _ [flip ⟨key, 3, .slice av q cv, ts⟩] we X2.out (by simp) (by
                  intro y hy
                  simp only [List.mem_singleton] at hy
                  subst hy
                  exact SX.out)).mono ?_
                rintro e wf ⟨vf, zf, rfl, h3, hc, hb⟩
                have BF := Lib.hid (BE.out.trans (hb.mono BE.out.size))
                have LF := Lib.hid (L.out.below BF.out)
                have YF := Lib.hid (And.intro h3 hc.trms)
                clear hb h3 hc X2 d0 d1 d2 df e0 e1 e2 hwd' hwe' BE BD xo
                go_wp2_with (at_builtin; refine app_lbls rfl _ _ rfl rfl LF.out rfl LL.out ?_)
                intro vg wg og hb
                have BG := Lib.hid (BF.out.trans (hb.mono BF.out.size))
                have MG := Lib.hid (match_any vf vg zf ls wg (YF.out.2.below hb) og.lbls)
                rw [matchR_t3 YF.out.1 ls, match_one (flip_ok IX.out) OKL.out, FB.out] at MG
                clear hb og LF YF BF
                go_wp2_with fail
                refine MG.out.mono ?_
                rintro e wh ⟨rfl, hb⟩
                have BH := Lib.hid (BG.out.trans (hb.mono BG.out.size))
                clear hb MG BG
                have z1 : (z != z) = false := by simp
                have z2 : ((!z) == z) = false := by cases z <;> rfl
                have ST : Hid ((xs.take (k + 1)).all (fun x => holdsB x ls) = (wb && z)) := Lib.hid (by
                  rw [take_one xs k _ (by rw [← HN.out]; exact hlt), List.all_append, ← WB.out, EX.out]
                  simp [HB.out])
                cases wb with
                | true =>
                  go_wp2_with fail
                  go_roundg (n - (k + 1))
                  case measure => have := R.out.1; omega
                  case rel => exact ⟨k + 1, by omega, rfl, by rw [ST.out]; rfl, by go_num, BH.out⟩
                | false =>
                  go_wp2_with fail
                  go_roundg (n - (k + 1))
                  case measure => have := R.out.1; omega
                  case rel => exact ⟨k + 1, by omega, rfl, by rw [ST.out]; rfl, by go_num, BH.out⟩
        · have hge : decide ((k : Int) < (n : Int)) = false := decide_eq_false (by omega)
          have hy : wb = allb := by
            rw [WB.out, AB.out, List.take_of_length_le (by rw [← HN.out]; omega)]
          subst hy
          have ee : (wb == wb) = true := by simp
          go_wp2_with fail
          go_ret
          exact ⟨rfl, R.out.2⟩
end Go.Proofs.YtofbnhffojapcaaDoor
