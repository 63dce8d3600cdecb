/-
  Which objects stand: within, named, partsStand, objectStands.
-/
import Derived.Test.YtehgnbgbmicheaaGreatDoorObV
import Derived.Test.YtehgnbgbmicheaaGreatDoorObX
import Derived.Test.YtehgnbgbmicheaaGreatDoorLaG
import Derived.Test.YtehgnbgbmicheaaGreatDoorKeG
namespace Go.Proofs.YtehgnbgbmicheaaGreatDoor
open Go.RowKit
/-- Parts that stand. -/
def ptB (b : ByteArray) (x : Pt) : Bool := L.ltS b x.n && (L.nameB x.n && (amsB x.r && amsB x.l))
def ptsUp : ByteArray → List Pt → Bool
  | _, [] => true
  | b, x :: r => ptB b x && ptsUp x.n r
def ptsB (l : List Pt) : Bool := decide (1 ≤ l.length) && (decide (l.length ≤ 8) && ptsUp ⟨#[]⟩ l)
def inB (n least most : Int) : Bool := decide (least ≤ n) && decide (n ≤ most)
def namedB (p n : ByteArray) : Bool := decide (L.splitE p = 0) && L.nameB n
def obS (o : Ob) : Bool := namedB o.p o.n && (decide (L.validE o.ls = 0) && (inB o.pr 0 9 && (inB o.dl 0 1152921504606846976 && (inB o.ver 0 1152921504606846976 && ptsB o.ps))))
/-- What EncodeObject tells. -/
def obR (o : Ob) : ByteArray × Nat := if obS o = true then outR (obE o) else (⟨#[]⟩, 130)
set_option maxHeartbeats 1000000 in
theorem within_any (n a b : Int) (w : World) : Calls Tryz.prog 41 #[.int .i64 n, .int .i64 a, .int .i64 b] w fun e w' => e = .returned (.bool (inB n a b)) ∧ w' = w := by
  unfold inB
  by_cases h : a ≤ n
  · have g : decide (a ≤ n) = true := decide_eq_true h
    rw [g]
    go_enter Tryz.func41, Tryz.ntmps41
    go_wp2_with fail
    go_ret
    exact ⟨rfl, rfl⟩
  · have g : decide (a ≤ n) = false := decide_eq_false h
    rw [g]
    go_enter Tryz.func41, Tryz.ntmps41
    go_wp2_with fail
    go_ret
    exact ⟨rfl, rfl⟩
set_option maxHeartbeats 1000000 in
theorem named_any (p n : ByteArray) (w : World) (hm : L.HasM w) : Calls Tryz.prog 39 #[.string p, .string n] w fun e w' => e = .returned (.bool (namedB p n)) ∧ Below w.heap.size w w' := by
  have PA := Lib.hid (L.path_any p w hm)
  have NA := Lib.hid (L.name_any n)
  go_enter Tryz.func39, Tryz.ntmps39
  go_wp2_with fail
  refine PA.out.mono ?_
  rintro e w1 ⟨rfl, hb⟩
  have B1 := Lib.hid hb
  clear hb PA
  by_cases h : L.splitE p = 0
  · have E : Aside (namedB p n = L.nameB n) := by show _ = _; unfold namedB; rw [decide_eq_true h]; rfl
    have g : (L.splitE p == 0) = true := by rw [beq_iff_eq]; exact h
    clear h
    go_wp2_with fail
    refine (NA.out w1).mono ?_
    rintro e w2 ⟨rfl, hb⟩
    have B2 := Lib.hid (B1.out.trans (hb.mono B1.out.size))
    clear hb
    go_wp2_with fail
    go_ret
    exact ⟨by rw [E.out]; rfl, B2.out⟩
  · have E : Aside (namedB p n = false) := by show _ = _; unfold namedB; rw [decide_eq_false h]; rfl
    have g : (L.splitE p == 0) = false := by rw [beq_eq_false_iff_ne]; exact h
    clear h
    go_wp2_with fail
    go_ret
    exact ⟨by rw [E.out]; rfl, B1.out⟩
theorem drop_onez {α : Type} (l : List α) (k : Nat) (d : α) (h : k < l.length) : l.drop k = l.getD k d :: l.drop (k + 1) := by
  rw [List.drop_eq_getElem_cons h, List.getD_eq_getElem?_getD, List.getElem?_eq_getElem h]; rfl
set_option maxHeartbeats 8000000 in
set_option maxRecDepth 100000 in
theorem partsStand_any (v : Value) (l : List Pt) (w : World) (hv : Pts w v l) : Calls Tryz.prog 42 #[v] w fun e w' => e = .returned (.bool (ptsB l)) ∧ Below w.heap.size w w' := by
  have V := Lib.hid hv
  obtain ⟨a, cap, rfl, hlc, hcm⟩ := hv.len
  unfold maxLen at hcm
  obtain ⟨n, hn⟩ : ∃ n, n = l.length := ⟨_, rfl⟩
  rw [← hn] at hlc V ⊢
  have HN := Lib.hid hn
  clear hv hn
  by_cases h1 : n < 1
  · have g : decide ((n : Int) < 1) = true := decide_eq_true (by omega)
    have E : Aside (ptsB l = false) := by show _ = _; unfold ptsB; rw [decide_eq_false (by rw [← HN.out]; omega)]; rfl
    go_enter Tryz.func42, Tryz.ntmps42
    go_wp2_with fail
    go_ret
    exact ⟨by rw [E.out]; rfl, Below.refl _ _⟩
  have g1 : decide ((n : Int) < 1) = false := decide_eq_false (by omega)
  by_cases h8 : n > 8
  · have g : decide ((n : Int) > 8) = true := decide_eq_true (by omega)
    have E : Aside (ptsB l = false) := by show _ = _; unfold ptsB; rw [decide_eq_false (show ¬ l.length ≤ 8 by rw [← HN.out]; omega)]; simp
    go_enter Tryz.func42, Tryz.ntmps42
    go_wp2_with fail
    go_ret
    exact ⟨by rw [E.out]; rfl, Below.refl _ _⟩
  have g8 : decide ((n : Int) > 8) = false := decide_eq_false (by omega)
  have E : Aside (ptsB l = ptsUp ⟨#[]⟩ l) := by show _ = _; unfold ptsB; rw [decide_eq_true (show 1 ≤ l.length by rw [← HN.out]; omega), decide_eq_true (show l.length ≤ 8 by rw [← HN.out]; omega)]; rfl
  go_enter Tryz.func42, Tryz.ntmps42
  go_wp2_with fail
  clear g1 g8
  go_loopg [3, 16] n (fun g sb si wr => ∃ (k : Nat) (b : ByteArray), k ≤ n ∧ g = n - k ∧ si = .int .i64 k ∧ sb = .string b ∧ ptsUp ⟨#[]⟩ l = ptsUp b (l.drop k) ∧ Below w.heap.size w wr)
  case atStart => exact ⟨0, ⟨#[]⟩, Nat.zero_le _, rfl, rfl, rfl, rfl, Below.refl _ _⟩
  case round =>
    obtain ⟨k, b0, hk, hg, rfl, rfl, hpr, hb⟩ := hrel
    have R : Aside (gk = n - k ∧ ptsUp ⟨#[]⟩ l = ptsUp b0 (l.drop k) ∧ Below w.heap.size w wr) := ⟨hg, hpr, hb⟩
    clear hg hpr hb
    by_cases hlt : k < n
    · have hlt' : (k : Int) < (n : Int) := by omega
      obtain ⟨b, off, ra, rb, rfl, c0, c1, c2, hra, hrb⟩ := (V.out.below R.out.2.2).at k (by rw [← HN.out]; exact hlt)
      obtain ⟨x, hx⟩ : ∃ x, x = l.getD k ⟨⟨#[]⟩, [], []⟩ := ⟨_, rfl⟩
      have UP : Aside (ptsUp ⟨#[]⟩ l = (ptB b0 x && ptsUp x.n (l.drop (k + 1)))) := by
        show _ = _
        rw [R.out.2.1, drop_onez l k ⟨⟨#[]⟩, [], []⟩ (by rw [← HN.out]; exact hlt), ← hx]; rfl
      rw [← hx] at c0 hra hrb
      clear hx
      obtain ⟨xn, xr, xl⟩ := x
      obtain ⟨ra1, ra2, ra3⟩ := ra
      obtain ⟨rb1, rb2, rb3⟩ := rb
      unfold Sl.v at c1 c2 hra hrb
      simp only at c0 c1 c2 hra hrb
      obtain ⟨X, hX⟩ : ∃ X, X = wr.alloc (.cells #[.string xn, .slice ra1 ra2 ra3, .slice rb1 rb2 rb3] 52) := ⟨_, rfl⟩
      have AX : Hid (Below wr.heap.size wr X) := Lib.hid (by rw [hX]; exact (Below.refl _ wr).alloc (Nat.le_refl _) _)
      have BX : Hid (X.cell? ⟨wr.heap.size, 0, none⟩ = some (.string xn) ∧ X.cell? ⟨wr.heap.size, 1, none⟩ = some (.slice ra1 ra2 ra3) ∧ X.cell? ⟨wr.heap.size, 2, none⟩ = some (.slice rb1 rb2 rb3)) :=
        Lib.hid ⟨by rw [hX, World.cell?_alloc_new]; rfl, by rw [hX, World.cell?_alloc_new]; rfl, by rw [hX, World.cell?_alloc_new]; rfl⟩
      have b1 := BX.out.1
      have RW : Aside (Row kAm X (.slice ra1 ra2 ra3) xr ∧ Row kAm X (.slice rb1 rb2 rb3) xl) := ⟨hra.below AX.out, hrb.below AX.out⟩
      have NK := Lib.hid (L.name_any xn)
      have hX' := hX.symm
      clear hX hra hrb
      cases hL : Op.bytesLess b0.toList xn.toList with
      | false =>
        have F : Aside (ptsUp ⟨#[]⟩ l = false) := by show _ = _; rw [UP.out]; unfold ptB L.ltS; rw [hL]; rfl
        by_cases hq : xn.toList = b0.toList
        · have q1 : (xn.toList == b0.toList) = true := by rw [beq_iff_eq]; exact hq
          have q2 : Op.bytesLess xn.toList b0.toList = false := by rw [hq]; exact K.bl_refl _
          clear hq
          go_wp2_with fail
          go_ret
          exact ⟨by rw [E.out, F.out]; rfl, R.out.2.2.trans (AX.out.mono R.out.2.2.size)⟩
        · have q2 : Op.bytesLess xn.toList b0.toList = true := by
            cases q : Op.bytesLess xn.toList b0.toList with
            | true => rfl
            | false => exact absurd (K.bl_total _ _ q hL) hq
          have q1 : (xn.toList == b0.toList) = false := by rw [beq_eq_false_iff_ne]; exact hq
          clear hq
          go_wp2_with fail
          go_ret
          exact ⟨by rw [E.out, F.out]; rfl, R.out.2.2.trans (AX.out.mono R.out.2.2.size)⟩
      | true =>
        have q2 : Op.bytesLess xn.toList b0.toList = false := K.bl_asymm _ _ hL
        have q1 : (xn.toList == b0.toList) = false := by
          rw [beq_eq_false_iff_ne]; intro q; rw [q] at hL; have h9 := K.bl_refl b0.toList; exact absurd (hL.symm.trans h9) (by simp)
        go_wp2_with fail
        refine (NK.out X).mono ?_
        rintro e w2 ⟨rfl, hb⟩
        have B2 := Lib.hid hb
        clear hX' b1 NK
        cases hN : L.nameB xn with
        | false =>
          have F : Aside (ptsUp ⟨#[]⟩ l = false) := by show _ = _; rw [UP.out]; unfold ptB; simp [hN]
          clear hb
          go_wp2_with fail
          go_ret
          exact ⟨by rw [E.out, F.out]; rfl, R.out.2.2.trans ((AX.out.trans (B2.out.mono AX.out.size)).mono R.out.2.2.size)⟩
        | true =>
          have b1 := (hb.cell (block_lt_of_cell BX.out.2.1)).trans BX.out.2.1
          have VA := Lib.hid (valid_any _ _ w2 (RW.out.1.below hb))
          clear hb
          go_wp2_with fail
          refine VA.out.mono ?_
          rintro e w3 ⟨rfl, hb3⟩
          have B3 := Lib.hid (B2.out.trans (hb3.mono B2.out.size))
          clear b1 VA hb3
          by_cases hR : amsC xr = 0
          · have g : (amsC xr != 0) = false := by rw [hR]; rfl
            have b2 := (B3.out.cell (block_lt_of_cell BX.out.2.2)).trans BX.out.2.2
            have VB := Lib.hid (valid_any _ _ w3 (RW.out.2.below B3.out))
            have HR := Lib.hid ((amsC_zero xr).1 hR)
            clear hR
            go_wp2_with fail
            refine VB.out.mono ?_
            rintro e w4 ⟨rfl, hb4⟩
            have B4 := Lib.hid (B3.out.trans (hb4.mono B3.out.size))
            clear b2 VB hb4
            by_cases hM : amsC xl = 0
            · have g2 : (amsC xl != 0) = false := by rw [hM]; rfl
              have HM := (amsC_zero xl).1 hM
              have b1 := (B4.out.cell (block_lt_of_cell BX.out.1)).trans BX.out.1
              have F : Aside (ptsUp ⟨#[]⟩ l = ptsUp xn (l.drop (k + 1))) := by
                show _ = _
                rw [UP.out]; unfold ptB L.ltS
                simp only [hL, hN, HR.out, HM, Bool.and_self, Bool.true_and]
              clear hM HM hL hN
              go_wp2_with fail
              go_roundg (n - (k + 1))
              case measure => have := R.out.1; omega
              case rel => exact ⟨k + 1, xn, by omega, rfl, by go_num, rfl, F.out, R.out.2.2.trans ((AX.out.trans (B4.out.mono AX.out.size)).mono R.out.2.2.size)⟩
            · have g2 : (amsC xl != 0) = true := by rw [bne_iff_ne]; exact hM
              have F : Aside (ptsUp ⟨#[]⟩ l = false) := by
                show _ = _
                have : amsB xl = false := by
                  cases q : amsB xl with
                  | false => rfl
                  | true => exact absurd ((amsC_zero xl).2 q) hM
                rw [UP.out]; unfold ptB; simp [this]
              clear hM
              go_wp2_with fail
              go_ret
              exact ⟨by rw [E.out, F.out]; rfl, R.out.2.2.trans ((AX.out.trans (B4.out.mono AX.out.size)).mono R.out.2.2.size)⟩
          · have g : (amsC xr != 0) = true := by rw [bne_iff_ne]; exact hR
            have F : Aside (ptsUp ⟨#[]⟩ l = false) := by
              show _ = _
              have : amsB xr = false := by
                cases q : amsB xr with
                | false => rfl
                | true => exact absurd ((amsC_zero xr).2 q) hR
              rw [UP.out]; unfold ptB; simp [this]
            clear hR
            go_wp2_with fail
            go_ret
            exact ⟨by rw [E.out, F.out]; rfl, R.out.2.2.trans ((AX.out.trans (B3.out.mono AX.out.size)).mono R.out.2.2.size)⟩
    · have F : Aside (ptsUp ⟨#[]⟩ l = true) := by
        show _ = _
        rw [R.out.2.1, List.drop_eq_nil_of_le (by rw [← HN.out]; omega)]; rfl
      go_wp2_with fail
      go_ret
      exact ⟨by rw [E.out, F.out]; rfl, R.out.2.2⟩
set_option maxHeartbeats 8000000 in
set_option maxRecDepth 100000 in
theorem objectStands_any (o : Ob) (ls ps : Value) (w : World) (hm : L.HasM w) (hv : ObV w ls ps o) : Calls Tryz.prog 22 #[o.val ls ps] w fun e w' => e = .returned (.bool (obS o)) ∧ Below w.heap.size w w' := by
  have V := Lib.hid (And.intro hv hm)
  obtain ⟨la, lc, rfl, hlc, hcm⟩ := hv.l.len
  obtain ⟨pa, pc, rfl, hlp, hcp⟩ := hv.p.len
  clear hv hm hlc hcm hlp hcp
  obtain ⟨op, on, ols, opr, odl, ops, ov⟩ := o
  obtain ⟨S, hS⟩ : ∃ S, S = obS ⟨op, on, ols, opr, odl, ops, ov⟩ := ⟨_, rfl⟩
  have ES : Aside (S = (namedB op on && (decide (L.validE ols = 0) && (inB opr 0 9 && (inB odl 0 1152921504606846976 && (inB ov 0 1152921504606846976 && ptsB ops)))))) := hS
  rw [← hS]
  clear hS
  unfold Ob.val
  simp only at V ⊢
  obtain ⟨X, hX⟩ : ∃ X, X = w.alloc (.cells #[.string op, .string on, .slice la ols.length lc, .int .i64 opr, .int .i64 odl, .slice pa ops.length pc, .int .i64 ov] 25) := ⟨_, rfl⟩
  have AX : Hid (Below w.heap.size w X) := Lib.hid (by rw [hX]; exact (Below.refl _ w).alloc (Nat.le_refl _) _)
  have CX : Hid (∀ i y, #[Value.string op, .string on, .slice la ols.length lc, .int .i64 opr, .int .i64 odl, .slice pa ops.length pc, .int .i64 ov][i]? = some y → X.cell? ⟨w.heap.size, i, none⟩ = some y) := Lib.hid fun i y h => by
    rw [hX, World.cell?_alloc_new]; exact h
  have VX : Hid (ObV X (.slice la ols.length lc) (.slice pa ops.length pc) ⟨op, on, ols, opr, odl, ops, ov⟩) := Lib.hid (V.out.1.below AX.out)
  have d0 := CX.out 0 _ rfl
  have d1 := CX.out 1 _ rfl
  have NA := Lib.hid (named_any op on X (V.out.2.below AX.out))
  have hX' := hX.symm
  clear hX
  go_enter Tryz.func22, Tryz.ntmps22
  go_wp2_with fail
  refine NA.out.mono ?_
  rintro e w1 ⟨rfl, hb⟩
  have B1 := Lib.hid hb
  clear hb NA hX' d0 d1
  cases h1 : namedB op on with
  | false =>
    have F : Aside (S = false) := by show _ = _; rw [ES.out, h1]; rfl
    go_wp2_with fail
    go_ret
    exact ⟨by rw [F.out]; rfl, AX.out.trans (B1.out.mono AX.out.size)⟩
  | true =>
  have d2 := (B1.out.cell (block_lt_of_cell (CX.out 2 _ rfl))).trans (CX.out 2 _ rfl)
  have VB : Hid (∀ W, Below X.heap.size X W → Calls Tryz.prog 40 #[.slice la ols.length lc] W fun e w' => e = .returned (.int .i64 (L.validE ols)) ∧ Below W.heap.size W w') := Lib.hid fun W hW => L.valid_any _ ols W (by
    obtain ⟨a', cap', e1, e2, e3, e4, e5⟩ := VX.out.l.below hW
    exact ⟨a', cap', e1, e2, e3, e4, fun k hk => by obtain ⟨b, off, q1, q2⟩ := e5 k hk; exact ⟨b, off, q1, q2 0 _ rfl, q2 1 _ rfl⟩⟩)
  go_wp2_with fail
  refine (VB.out w1 B1.out).mono ?_
  rintro e w2 ⟨rfl, hb⟩
  have B2 := Lib.hid (B1.out.trans (hb.mono B1.out.size))
  clear hb d2 VB
  by_cases h2 : L.validE ols = 0
  case neg =>
    have g : (L.validE ols == 0) = false := by rw [beq_eq_false_iff_ne]; exact h2
    have F : Aside (S = false) := by show _ = _; rw [ES.out, decide_eq_false h2]; simp
    go_wp2_with fail
    go_ret
    exact ⟨by rw [F.out]; rfl, AX.out.trans (B2.out.mono AX.out.size)⟩
  have g2 : (L.validE ols == 0) = true := by rw [beq_iff_eq]; exact h2
  have d3 := (B2.out.cell (block_lt_of_cell (CX.out 3 _ rfl))).trans (CX.out 3 _ rfl)
  have W3 := Lib.hid (within_any opr 0 9 w2)
  go_wp2_with fail
  refine W3.out.mono ?_
  rintro e w3 ⟨rfl, hw3⟩
  subst hw3
  have B3 := B2
  clear d3 W3
  cases h3 : inB opr 0 9 with
  | false =>
    have F : Aside (S = false) := by show _ = _; rw [ES.out, h3]; simp
    go_wp2_with fail
    go_ret
    exact ⟨by rw [F.out]; rfl, AX.out.trans (B3.out.mono AX.out.size)⟩
  | true =>
  have d4 := (B3.out.cell (block_lt_of_cell (CX.out 4 _ rfl))).trans (CX.out 4 _ rfl)
  have W4 := Lib.hid (within_any odl 0 1152921504606846976 w3)
  go_wp2_with fail
  refine W4.out.mono ?_
  rintro e w4 ⟨rfl, hw4⟩
  subst hw4
  have B4 := B3
  clear d4 W4
  cases h4 : inB odl 0 1152921504606846976 with
  | false =>
    have F : Aside (S = false) := by show _ = _; rw [ES.out, h4]; simp
    go_wp2_with fail
    go_ret
    exact ⟨by rw [F.out]; rfl, AX.out.trans (B4.out.mono AX.out.size)⟩
  | true =>
  have d6 := (B4.out.cell (block_lt_of_cell (CX.out 6 _ rfl))).trans (CX.out 6 _ rfl)
  have W5 := Lib.hid (within_any ov 0 1152921504606846976 w4)
  go_wp2_with fail
  refine W5.out.mono ?_
  rintro e w5 ⟨rfl, hw5⟩
  subst hw5
  have B5 := B4
  clear d6 W5
  cases h5 : inB ov 0 1152921504606846976 with
  | false =>
    have F : Aside (S = false) := by show _ = _; rw [ES.out, h5]; simp
    go_wp2_with fail
    go_ret
    exact ⟨by rw [F.out]; rfl, AX.out.trans (B5.out.mono AX.out.size)⟩
  | true =>
  have d5 := (B5.out.cell (block_lt_of_cell (CX.out 5 _ rfl))).trans (CX.out 5 _ rfl)
  have PS := Lib.hid (partsStand_any _ ops w5 (VX.out.p.below B5.out))
  go_wp2_with fail
  refine PS.out.mono ?_
  rintro e w9 ⟨rfl, hb⟩
  have B9 := Lib.hid (B5.out.trans (hb.mono B5.out.size))
  clear hb d5 PS
  have F : Aside (S = ptsB ops) := by
    show _ = _
    rw [ES.out, h1, decide_eq_true h2, h3, h4, h5]
    simp only [Bool.true_and]
  go_wp2_with fail
  go_ret
  exact ⟨by rw [F.out]; rfl, AX.out.trans (B9.out.mono AX.out.size)⟩
end Go.Proofs.YtehgnbgbmicheaaGreatDoor
