/-
  there, sameSet: the walks.
-/
import Derived.Test.YtoocpbpdoaplgaaDoorWtT
import Derived.BigQuiet
namespace Go.Proofs.YtoocpbpdoaplgaaDoor
open Go.RowKit
namespace Wt
theorem filterT_take (f : ByteArray → Bool) (l : List ByteArray) (k : Nat) (h : k < l.length) : (l.take (k + 1)).filter f = (l.take k).filter f ++ (if f (l.getD k ⟨#[]⟩) = true then [l.getD k ⟨#[]⟩] else []) := by
  rw [take_onez l k ⟨#[]⟩ h, List.filter_append]
  congr 1
  by_cases q : f (l.getD k ⟨#[]⟩) = true
  · rw [if_pos q, List.filter_cons_of_pos q]; rfl
  · rw [if_neg q, List.filter_cons_of_neg q]; rfl
theorem filterT_le (f : ByteArray → Bool) (l : List ByteArray) (k : Nat) : ((l.take k).filter f).length ≤ k := by
  refine Nat.le_trans (List.length_filter_le _ _) ?_
  rw [List.length_take]; omega
set_option maxHeartbeats 32000000 in
set_option maxRecDepth 100000 in
theorem there_any (m : Ev) (w0 w : World) (gp g : Nat) (v vL : Value) (f : Int) (s : St) (A : List Ev) (hG : Gl m w0) (hP : Pd w0 w gp g v vL f s A) (hA : A.length ≤ 120000) (x kind : Int) (path : ByteArray) :
    Calls Tryd.prog 25 #[.pointer (some ⟨gp, 0, none⟩), .int .i64 x, .int .i64 kind, .string path] w fun e w' => ∃ a n c, e = .returned (.slice a n c) ∧ OwnR kT w.heap.size w' (.slice a n c) (thL x kind path A) ∧ Below w.heap.size w w' := by
  have PD := Lib.hid hP
  have WX : Hid (∀ W : World, Below w.heap.size w W → Pd w0 W gp g v vL f s A ∧ Gl m W) := Lib.hid fun W hb => ⟨PD.out.below hb, hG.below (PD.out.below hb).h.be⟩
  clear hG hP
  obtain ⟨nA, hnA⟩ : ∃ nA, nA = A.length := ⟨_, rfl⟩
  have HA := Lib.hid hnA
  rw [← hnA] at hA
  clear hnA
  obtain ⟨qn, aL, cL, rfl⟩ : ∃ n1 a1 c1, vL = .slice a1 n1 c1 := by (obtain ⟨a', c', e'⟩ := PD.out.l.slice; exact ⟨_, a', c', e'⟩)
  have EQ : qn = nA := by obtain ⟨a', c', e'⟩ := PD.out.l.slice; simp only [Value.slice.injEq] at e'; rw [HA.out]; exact e'.2.1
  subst EQ
  go_enter Tryd.func25, Tryd.ntmps25
  go_wp2_with fail
  go_loopg [9, 10] qn (fun gk so si wr => ∃ (k : Nat) (a1 : Option Addr) (n1 c1 : Nat), k ≤ qn ∧ gk = qn - k ∧ so = .slice a1 n1 c1 ∧ si = .int .i64 k ∧ Hid (OwnR kT w.heap.size wr (.slice a1 n1 c1) (thL x kind path (A.take k)) ∧ Below w.heap.size w wr))
  case atStart => exact ⟨0, none, 0, 0, Nat.zero_le _, rfl, rfl, rfl, Lib.hid ⟨OwnR.nil _ _ _, Below.refl _ _⟩⟩
  case round =>
    obtain ⟨k, a1, n1, c1, hk, hgk, rfl, rfl, R⟩ := hrel
    have GK := Lib.hid hgk
    clear hgk
    obtain ⟨w1, rfl⟩ : ∃ w1, w1 = wr := ⟨_, rfl⟩
    have c2 := (WX.out w1 R.out.2).1.c2
    by_cases hlt : k < qn
    · have hlt' : (k : Int) < (qn : Int) := by omega
      have hkA : k < A.length := by rw [← HA.out]; exact hlt
      obtain ⟨b, off, rfl, k0, k1, k2, k3, k4⟩ := row_at ((WX.out w1 R.out.2).1.l.row okE) k hkA
      have TS := Lib.hid (thL_succ x kind path A k hkA)
      have SZ := Lib.hid (right_sizes (PD.out.pu.r _ (getD_in (d := Ev.z) hkA)).2.2)
      obtain ⟨out, hout⟩ : ∃ out, out = thL x kind path (A.take k) := ⟨_, rfl⟩
      have OL : Hid (out.length ≤ k ∧ n1 = out.length) := Lib.hid ⟨by rw [hout]; exact thL_len x kind path A k (by rw [← HA.out]; exact hk), by rw [hout]; obtain ⟨q1, q2, e⟩ := R.out.1.slice; simp only [Value.slice.injEq] at e; exact e.2.1⟩
      rw [← hout] at R TS
      clear hout
      obtain ⟨y, hy⟩ : ∃ y, y = A.getD k Ev.z := ⟨_, rfl⟩
      rw [← hy] at k0 k1 k2 k3 k4 TS SZ
      clear hy hkA
      obtain ⟨yv, yk, yg, yp, yn⟩ := y
      simp only at k0 k1 k2 k3 k4 SZ
      obtain ⟨X, hX⟩ : ∃ X, X = w1.alloc (.cells #[.int .i64 yv, .int .i64 yk, .bool yg, .string yp, .string yn] 33) := ⟨_, rfl⟩
      have AX : Hid (Below w.heap.size w X ∧ L.HasM X ∧ OwnR kT w.heap.size X (.slice a1 n1 c1) out) := Lib.hid (by
        have hb : Below w1.heap.size w1 X := by rw [hX]; exact (Below.refl _ w1).alloc (Nat.le_refl _) _
        have hb2 := R.out.2.trans (hb.mono R.out.2.size)
        exact ⟨hb2, (WX.out X hb2).2.hm, R.out.1.below hb⟩)
      have CX : Hid (∀ W : World, Below X.heap.size X W → ∀ i y, #[Value.int .i64 yv, .int .i64 yk, .bool yg, .string yp, .string yn][i]? = some y → W.cell? ⟨w1.heap.size, i, none⟩ = some y) := Lib.hid fun W hb i y h => by
        have h1 : X.cell? ⟨w1.heap.size, i, none⟩ = some y := by rw [hX, World.cell?_alloc_new]; exact h
        rw [hb.cell (block_lt_of_cell h1)]; exact h1
      have x0 := CX.out X (Below.refl _ _) 0 _ rfl
      have x1 := CX.out X (Below.refl _ _) 1 _ rfl
      have x3 := CX.out X (Below.refl _ _) 3 _ rfl
      have UA := Lib.hid (L.under_any yp path X AX.out.2.1)
      have hX' := hX.symm
      clear hX R
      have NO : Hid (¬ (yv ≤ x ∧ yk = kind ∧ L.underB yp path = true) → thL x kind path (A.take (k + 1)) = out) := Lib.hid fun q => by rw [TS.out]; unfold thS; rw [if_neg q]
      by_cases hv : yv > x
      · have TN := Lib.hid (NO.out (fun q => by omega))
        go_wp2_with fail
        go_roundg (qn - (k + 1))
        case measure => have := GK.out; omega
        case rel => exact ⟨k + 1, a1, n1, c1, by omega, rfl, rfl, by go_num, Lib.hid ⟨by rw [TN.out]; exact AX.out.2.2, AX.out.1⟩⟩
      by_cases hkd : yk = kind
      · subst hkd
        go_wp2_with fail
        refine UA.out.mono ?_
        rintro e w3 ⟨rfl, hb3⟩
        have W3 : Hid (Below w.heap.size w w3 ∧ OwnR kT w.heap.size w3 (.slice a1 n1 c1) out) := Lib.hid ⟨AX.out.1.trans (hb3.mono AX.out.1.size), AX.out.2.2.below hb3⟩
        have C3 : Hid (∀ W : World, Below w3.heap.size w3 W → ∀ i y, #[Value.int .i64 yv, .int .i64 yk, .bool yg, .string yp, .string yn][i]? = some y → W.cell? ⟨w1.heap.size, i, none⟩ = some y) := Lib.hid fun W hb => CX.out W (hb3.trans (hb.mono hb3.size))
        have y3 := C3.out w3 (Below.refl _ _) 3 _ rfl
        have y4 := C3.out w3 (Below.refl _ _) 4 _ rfl
        clear hb3 UA CX AX x0 x1 x3 k0 k1 k2 k3 k4 hX'
        by_cases hu : L.underB yp path = true
        · rw [hu]
          obtain ⟨tt, htt⟩ : ∃ tt, tt = tx ⟨yv, yk, yg, yp, yn⟩ := ⟨_, rfl⟩
          have TZ : Hid (thL x yk path (A.take (k + 1)) = out.filter (fun t => decide (t ≠ tt)) ++ (if yg = true then [] else [tt])) := Lib.hid (by rw [TS.out]; unfold thS; rw [if_pos ⟨by omega, rfl, hu⟩, htt])
          have htx : yp ++ (⟨#[32]⟩ : ByteArray) ++ yn = tt := by rw [htt]; rfl
          have s1 : (yp ++ (⟨#[32]⟩ : ByteArray)).size = yp.size + 1 := by rw [ByteArray.size_append]; rfl
          have s2 : yp.size ≤ 64 := SZ.out.1
          have s3 : yn.size ≤ 32 := SZ.out.2
          clear htt hu
          go_wp2_with fail
          try rw [htx]
          clear s1 s2 s3
          go_loopg [13, 14] n1 (fun gj sr sj wr2 => ∃ (j : Nat) (a5 : Option Addr) (n5 c5 : Nat), j ≤ n1 ∧ gj = n1 - j ∧ sr = .slice a5 n5 c5 ∧ sj = .int .i64 j ∧ Hid (OwnR kT w3.heap.size wr2 (.slice a5 n5 c5) ((out.take j).filter (fun t => decide (t ≠ tt))) ∧ Below w3.heap.size w3 wr2))
          case atStart => exact ⟨0, none, 0, 0, Nat.zero_le _, rfl, rfl, rfl, Lib.hid ⟨OwnR.nil _ _ _, Below.refl _ _⟩⟩
          case round =>
            obtain ⟨j, a5, n5, c5, hj, hgj, rfl, rfl, I⟩ := hrel
            have n1b : n1 ≤ 120000 := by have := OL.out; omega
            have GJ := Lib.hid hgj
            clear hgj y3 y4
            by_cases hjt : j < n1
            · have hjt' : (j : Int) < (n1 : Int) := by omega
              have hjo : j < out.length := by rw [← OL.out.2]; exact hjt
              obtain ⟨ob, oo, rfl, z0⟩ := rowT_at ((W3.out.2.row okT).below I.out.2) j hjo
              have FT := Lib.hid (filterT_take (fun t => decide (t ≠ tt)) out j hjo)
              have LZ : Hid ((((out.take j).filter (fun t => decide (t ≠ tt))).length + 1) * kT.b ≤ 140737488355328) := Lib.hid (by
                have := filterT_le (fun t => decide (t ≠ tt)) out j
                have := OL.out
                show (_ + 1) * 16 ≤ _
                omega)
              have IS : Hid (w3.heap.size ≤ wr.heap.size) := Lib.hid I.out.2.size
              obtain ⟨z, hz⟩ : ∃ z, z = out.getD j ⟨#[]⟩ := ⟨_, rfl⟩
              rw [← hz] at z0 FT
              clear hz hjo
              have SL := same_list z tt
              by_cases he : z = tt
              · have F2 := Lib.hid (FT.out.trans (by rw [if_neg (by simp [he]), List.append_nil]))
                rw [decide_eq_true he] at SL
                clear he
                go_wp2_with fail
                go_roundg (n1 - (j + 1))
                case measure => have := GJ.out; omega
                case rel => exact ⟨j + 1, a5, n5, c5, by omega, rfl, rfl, by go_num, Lib.hid ⟨by rw [F2.out]; exact I.out.1, I.out.2⟩⟩
              · have F2 := Lib.hid (FT.out.trans (by rw [if_pos (by simp [he])]))
                rw [decide_eq_false he] at SL
                clear he
                go_wp2_with (at_builtin; refine app_rowB okT (gg := wr.heap.size) rfl _ _ rfl rfl I.out.1 IS.out z rfl rfl rfl LZ.out ?_; intro v7 w7 h7 g7)
                obtain ⟨n7, a7, c7, rfl⟩ : ∃ n1 a1 c1, v7 = .slice a1 n1 c1 := by (obtain ⟨a', c', e'⟩ := h7.slice; exact ⟨_, a', c', e'⟩)
                have W7 : Hid (OwnR kT w3.heap.size w7 (.slice a7 n7 c7) ((out.take (j + 1)).filter (fun t => decide (t ≠ tt))) ∧ Below w3.heap.size w3 w7) := Lib.hid ⟨by rw [F2.out]; exact h7, I.out.2.grown g7 IS.out (fun j hj => (I.out.1.lt j hj).1)⟩
                clear h7 g7
                go_wp2_with fail
                go_roundg (n1 - (j + 1))
                case measure => have := GJ.out; omega
                case rel => exact ⟨j + 1, a7, n7, c7, by omega, rfl, rfl, by go_num, W7⟩
            · have EJ : Hid (out.take j = out) := Lib.hid (List.take_of_length_le (by rw [← OL.out.2]; omega))
              rw [EJ.out] at I
              have hjn : ¬ (j : Int) < (n1 : Int) := by omega
              have z2 := C3.out wr I.out.2 2 _ rfl
              have W8 : Hid (OwnR kT w.heap.size wr (.slice a5 n5 c5) (out.filter (fun t => decide (t ≠ tt))) ∧ Below w.heap.size w wr) := Lib.hid ⟨I.out.1.mono W3.out.1.size, W3.out.1.trans (I.out.2.mono W3.out.1.size)⟩
              have LZ : Hid (((out.filter (fun t => decide (t ≠ tt))).length + 1) * kT.b ≤ 140737488355328) := Lib.hid (by
                have := List.length_filter_le (fun t => decide (t ≠ tt)) out
                have := OL.out
                show (_ + 1) * 16 ≤ _
                omega)
              cases yg with
              | true =>
                have T2 := Lib.hid (TZ.out.trans (by rw [if_pos rfl, List.append_nil]))
                go_wp2_with fail
                go_roundg (qn - (k + 1))
                case measure => have := GK.out; omega
                case rel => exact ⟨k + 1, a5, n5, c5, by omega, rfl, rfl, by go_num, Lib.hid ⟨by rw [T2.out]; exact W8.out.1, W8.out.2⟩⟩
              | false =>
                have T2 := Lib.hid (TZ.out.trans (by rw [if_neg (by simp)]))
                go_wp2_with (at_builtin; refine app_rowB okT (gg := wr.heap.size) rfl _ _ rfl rfl W8.out.1 W8.out.2.size tt rfl rfl rfl LZ.out ?_; intro v7 w7 h7 g7)
                obtain ⟨n7, a7, c7, rfl⟩ : ∃ n1 a1 c1, v7 = .slice a1 n1 c1 := by (obtain ⟨a', c', e'⟩ := h7.slice; exact ⟨_, a', c', e'⟩)
                have W9 : Hid (OwnR kT w.heap.size w7 (.slice a7 n7 c7) (thL x yk path (A.take (k + 1))) ∧ Below w.heap.size w w7) := Lib.hid ⟨by rw [T2.out]; exact h7, W8.out.2.grown g7 W8.out.2.size (fun j hj => (W8.out.1.lt j hj).1)⟩
                clear h7 g7
                go_wp2_with fail
                go_roundg (qn - (k + 1))
                case measure => have := GK.out; omega
                case rel => exact ⟨k + 1, a7, n7, c7, by omega, rfl, rfl, by go_num, W9⟩
        · have hu' : L.underB yp path = false := by simpa using hu
          have TN := Lib.hid (NO.out (fun q => hu q.2.2))
          rw [hu']
          clear hu hu'
          go_wp2_with fail
          go_roundg (qn - (k + 1))
          case measure => have := GK.out; omega
          case rel => exact ⟨k + 1, a1, n1, c1, by omega, rfl, rfl, by go_num, Lib.hid ⟨by rw [TN.out]; exact W3.out.2, W3.out.1⟩⟩
      · have TN := Lib.hid (NO.out (fun q => hkd q.2.1))
        have gk' : (yk == kind) = false := by rw [beq_eq_false_iff_ne]; exact hkd
        go_wp2_with fail
        go_roundg (qn - (k + 1))
        case measure => have := GK.out; omega
        case rel => exact ⟨k + 1, a1, n1, c1, by omega, rfl, rfl, by go_num, Lib.hid ⟨by rw [TN.out]; exact AX.out.2.2, AX.out.1⟩⟩
    · have EK : Hid (A.take k = A) := Lib.hid (List.take_of_length_le (by rw [← HA.out]; omega))
      rw [EK.out] at R
      have hkn : ¬ (k : Int) < (qn : Int) := by omega
      go_wp2_with fail
      go_ret
      exact ⟨_, _, _, rfl, R.out.1, R.out.2⟩
end Wt
end Go.Proofs.YtoocpbpdoaplgaaDoor
