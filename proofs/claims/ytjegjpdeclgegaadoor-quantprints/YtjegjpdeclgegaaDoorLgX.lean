/-
  The document's Print: the loop.
-/
import Derived.Test.YtjegjpdeclgegaaDoorLgW
namespace Go.Proofs.YtjegjpdeclgegaaDoor
open Go.RowKit Go.Lib
open Go.Sort (grow)
namespace Lg
theorem dg_some' {x : Nat} (h : 0 < x) : 0 < (dg x).length := by rw [dg_pos h]; simp
theorem tl0 (D : ByteArray) : D.toList = [] ↔ D.size = 0 := by
  rw [ByteArray.toList_eq]
  constructor
  · intro h; show D.data.size = 0; rw [← Array.length_toList, h]; rfl
  · intro h; apply List.eq_nil_of_length_eq_zero; rw [Array.length_toList]; exact h
set_option maxHeartbeats 8000000 in
set_option maxRecDepth 100000 in
theorem refPrint_loop (v : Nat) (hv : v ≤ 9223372036854775807) (h0 : 0 < v) (hm : v % 1000 = 0) (X : ByteArray) (hX : X = if 0 < (sd v 12).size ∧ (sd v 12).size < (fs v 12).size then sd v 12 else fs v 12) (w : World) :
    Calls Tryd.prog 7 #[.int .i64 (v : Int)] w fun e w' => e = .returned (.string X) ∧ Below w.heap.size w w' := by
  have HX := Lib.hid hX
  have LV := Lib.hid (fun W => long_n v W hv)
  have g1 : decide ((v : Int) < 0) = false := decide_eq_false (by omega)
  have e1 : (v : Int).tmod 1000 = 0 := by rw [Int.tmod_eq_emod_of_nonneg (by omega)]; omega
  have g2 : ((v : Int) == 0) = false := by rw [beq_eq_false_iff_ne]; omega
  have HV := Lib.hid hv
  have VB : Hid (v < 10 ^ 19) := Lib.hid (by omega)
  clear hv hX h0 hm
  go_enter Tryd.func7, Tryd.ntmps7
  go_wp2_with fail
  refine (suffixes_any w).mono ?_
  rintro e w1 ⟨la, ln, lc, xs, rfl, hs, hb⟩
  have hl : ln = 12 := by obtain ⟨_, _, e⟩ := hs.own.slice; simp only [Value.slice.injEq] at e; rw [e.2.1, hs.len]
  subst hl
  obtain ⟨gl, ela, -, -, -⟩ := hs.own.someOf (by rw [hs.len]; decide)
  subst ela
  have S1 : Hid (Sf w.heap.size w1 (.slice (some ⟨gl, 0, none⟩) 12 lc) 12 xs ∧ Below w.heap.size w w1) := Lib.hid ⟨hs, hb⟩
  clear hs hb
  go_wp2_with fail
  go_loopg [4, 5, 6] 11 (fun g sf ss si wr => ∃ (i : Nat), g = 12 - i ∧ 1 ≤ i ∧ i ≤ 12 ∧ si = .int .i64 i ∧ sf = .string (fs v i) ∧ ss = .string (sd v i) ∧ Below w1.heap.size w1 wr)
  case atStart => exact ⟨1, rfl, by decide, by decide, rfl, rfl, rfl, Below.refl _ _⟩
  case round =>
    obtain ⟨i, hg, hi1, hi2, rfl, rfl, rfl, hb⟩ := hrel
    have R : Hid (gk = 12 - i ∧ Below w1.heap.size w1 wr) := Lib.hid ⟨hg, hb⟩
    clear hg hb
    obtain ⟨F, hF⟩ : ∃ F, F = fs v i := ⟨_, rfl⟩
    obtain ⟨D, hD⟩ : ∃ D, D = sd v i := ⟨_, rfl⟩
    rw [← hF, ← hD]
    have HFD := Lib.hid (And.intro hF hD)
    clear hF hD
    by_cases hlt : i < 12
    · have hlt' : (i : Int) < 12 := by omega
      have SR : Hid (Sf w.heap.size wr (.slice (some ⟨gl, 0, none⟩) 12 lc) 12 xs) := Lib.hid (S1.out.1.below R.out.2)
      obtain ⟨c0, c1⟩ := SR.out.at i hlt
      obtain ⟨⟨xt, xa, xn, xc⟩, hx⟩ : ∃ x, x = xs.getD i kS.z := ⟨_, rfl⟩
      rw [← hx] at c1
      obtain ⟨N, hN⟩ : ∃ N, N = sufN i := ⟨_, rfl⟩
      obtain ⟨T, hT⟩ : ∃ T, T = sufT i := ⟨_, rfl⟩
      rw [← hT] at c0
      have NT : Hid (N = sufN i ∧ T = sufT i ∧ 0 < N ∧ N < 10 ^ 19 ∧ T.size ≤ 2) := Lib.hid ⟨hN, hT, by rw [hN]; exact sufN_pos i, by rw [hN]; exact sufN_lt i, by rw [hT]; exact sufT_two i⟩
      have RX : Hid (∀ W, Below wr.heap.size wr W → Row kI W (.slice xa xn xc) (dg N)) := Lib.hid fun W h => by have q := SR.out.row i hlt; rw [← hx, ← hN] at q; exact q.below h
      have BY : Hid (∀ W a6 n6 c6, Below wr.heap.size wr W → Row kI W (.slice a6 n6 c6) (dg v) → n6 ≤ 19 → Calls Tryd.prog 15 #[.agg #[.slice a6 n6 c6], .agg #[.slice xa xn xc]] W fun e w' => ∃ a n c a' n' c', e = .returned (.tuple #[.agg #[.slice a n c], .agg #[.slice a' n' c']]) ∧ Row kI w' (.slice a n c) (dg (v / N)) ∧ Row kI w' (.slice a' n' c') (dg (v % N)) ∧ Below W.heap.size W w') := Lib.hid fun W a6 n6 c6 h hr h6 => by_any a6 xa n6 xn c6 xc v N W hr (RX.out W h) (by omega) (Nat.le_trans (row_n (RX.out W h) NT.out.2.2.2.1) (by decide)) NT.out.2.2.1
      have BD : Hid (Below wr.heap.size wr wr.drew) := Lib.hid ((Below.refl _ wr).drew)
      have d1 : wr.drew.cell? ⟨gl, i * 2 + 1, none⟩ = some (.slice xa xn xc) := c1
      clear hx hN hT
      go_wp2_with fail
      go_cut [7, 8] (fun s7 s8 wx => ∃ p7 p8 qa qn qc ra rn rc, s7 = .pointer (some ⟨p7, 0, none⟩) ∧ s8 = .pointer (some ⟨p8, 0, none⟩) ∧ wx.heap[p7]? = some (.cells #[.slice qa qn qc] 40 (0, 0)) ∧ wx.heap[p8]? = some (.cells #[.slice ra rn rc] 40 (0, 0)) ∧ Row kI wx (.slice qa qn qc) (dg (v / N)) ∧ rn = (dg (v % N)).length ∧ Below wr.heap.size wr wx)
      case first =>
        have d2 := cellA d1 (Obj.cells #[.slice none 0 0] 40)
        have d3 := cellA d2 (Obj.cells #[.slice none 0 0] 40)
        have GL : gl < wr.heap.size := block_lt_of_cell c1
        go_region_held3 (fun W : World => W.cell? ⟨gl, i * 2 + 1, none⟩ = some (.slice xa xn xc)) (first | assumption | exact cellA (by assumption) _ | exact setA (by assumption) (by assumption) _ | exact setA (cellA (by assumption) _) (by assumption) _ | exact cellA (cellA (by assumption) _) _ | go_keep) (first
          | (go_at_call 12
             refine (LV.out _).mono ?_
             rintro e x6 ⟨a6, n6, c6, rfl, hr6, hn6, hb6⟩
             have Q6 : Hid (Row kI x6 (.slice a6 n6 c6) (dg v) ∧ n6 ≤ 19 ∧ Below wr.heap.size wr x6) := Lib.hid ⟨hr6, hn6, by first | exact ht BD.out hb6 | exact ht (bal BD.out _) hb6 | exact ht (bal (bal BD.out _) _) hb6⟩
             have z1 : x6.cell? ⟨gl, i * 2 + 1, none⟩ = some (.slice xa xn xc) := (Q6.out.2.2.cell (block_lt_of_cell c1)).trans c1
             have z2 := cellA z1 (Obj.cells #[.slice none 0 0] 40)
             have z3 := cellA z2 (Obj.cells #[.slice none 0 0] 40)
             first
               | (have L1 : Hid (Bx wr x6 wr.heap.size ∧ Bx wr x6 (wr.heap.size + 1)) := Lib.hid ⟨(Bx.made BD.out).alloc.call hb6, (Bx.mado BD.out).call hb6⟩)
               | (have L1 : Hid (Bx wr x6 wr.heap.size) := Lib.hid ((Bx.made BD.out).call hb6))
               | skip
             clear hr6 hn6 hb6)
          | (go_at_call 15
             refine (BY.out _ a6 n6 c6 (by first | exact Q6.out.2.2 | exact bal Q6.out.2.2 _ | exact bal (bal Q6.out.2.2 _) _) (by first | exact Q6.out.1 | exact Q6.out.1.below (bal (Below.refl _ _) _) | exact Q6.out.1.below (bal (bal (Below.refl _ _) _) _)) Q6.out.2.1).mono ?_
             rintro e x7 ⟨qa, qn, qc, ra, rn, rc, rfl, hrq, hrr, hb7⟩
             have Q7 : Hid (Row kI x7 (.slice qa qn qc) (dg (v / N)) ∧ rn = (dg (v % N)).length ∧ Below wr.heap.size wr x7) := Lib.hid ⟨hrq, row_len hrr, by first | exact ht Q6.out.2.2 hb7 | exact ht (bal Q6.out.2.2 _) hb7 | exact ht (bal (bal Q6.out.2.2 _) _) hb7⟩
             first
               | (have L2 : Hid (Pr wr x7 wr.heap.size (wr.heap.size + 1)) := Lib.hid ⟨L1.out.1.call hb7, L1.out.2.call hb7, by omega, Q7.out.2.2⟩)
               | (have L2 : Hid (Pr wr x7 wr.heap.size x6.heap.size) := Lib.hid ⟨L1.out.alloc.call hb7, (Bx.made Q6.out.2.2).call hb7, Nat.ne_of_lt L1.out.lt, Q7.out.2.2⟩)
               | (have L2 : Hid (Pr wr x7 x6.heap.size (x6.heap.size + 1)) := Lib.hid ⟨(Bx.made Q6.out.2.2).alloc.call hb7, (Bx.mado Q6.out.2.2).call hb7, by omega, Q7.out.2.2⟩)
               | (have L3 : Hid (Bx wr x7 wr.heap.size) := Lib.hid (L1.out.call hb7); have L2 : Hid (Pr wr (x7.alloc (Obj.cells #[.slice none 0 0] 40)) wr.heap.size x7.heap.size) := Lib.hid ⟨L3.out.alloc, Bx.made Q7.out.2.2, Nat.ne_of_lt L3.out.lt, bal Q7.out.2.2 _⟩; obtain ⟨k1, k2⟩ := L3.out.any (.cells #[.slice qa qn qc] 40))
               | (have L3 : Hid (Bx wr x7 x6.heap.size) := Lib.hid ((Bx.made Q6.out.2.2).call hb7); have L2 : Hid (Pr wr (x7.alloc (Obj.cells #[.slice none 0 0] 40)) x6.heap.size x7.heap.size) := Lib.hid ⟨L3.out.alloc, Bx.made Q7.out.2.2, Nat.ne_of_lt L3.out.lt, bal Q7.out.2.2 _⟩; obtain ⟨k1, k2⟩ := L3.out.any (.cells #[.slice qa qn qc] 40))
               | (have L2 : Hid (Pr wr ((x7.alloc (Obj.cells #[.slice none 0 0] 40)).alloc (Obj.cells #[.slice none 0 0] 40)) x7.heap.size (x7.heap.size + 1)) := Lib.hid ⟨(Bx.made Q7.out.2.2).alloc, Bx.mado Q7.out.2.2, by omega, bal (bal Q7.out.2.2 _) _⟩)
             obtain ⟨y1, y2, y3, y4, y5, y6, y7, y8⟩ := L2.out.two (.slice qa qn qc)
             have n1 := L2.out.2.2.1
             have m1 := Nat.ne_of_lt (Nat.lt_of_lt_of_le GL L2.out.1.ge)
             have m2 := Nat.ne_of_lt (Nat.lt_of_lt_of_le GL L2.out.2.1.ge)
             have z7 : x7.cell? ⟨gl, i * 2 + 1, none⟩ = some (.slice xa xn xc) := (Q7.out.2.2.cell (block_lt_of_cell c1)).trans c1
             have n2 := Ne.symm L2.out.2.2.1
             clear hrq hrr hb7))
        all_goals
          go_wp2_with fail
          go_meet
          first
            | exact L2.out.leaf (by first | exact Q7.out.1 | exact Q7.out.1.below (bal (Below.refl _ _) _) | exact Q7.out.1.below (bal (bal (Below.refl _ _) _) _)) Q7.out.2.1
            | exact L2.out.symm.leaf (by first | exact Q7.out.1 | exact Q7.out.1.below (bal (Below.refl _ _) _) | exact Q7.out.1.below (bal (bal (Below.refl _ _) _) _)) Q7.out.2.1
            | exact leafP Q7.out.2.2 Q7.out.1 Q7.out.2.1
            | exact leafQ Q7.out.2.2 Q7.out.1 Q7.out.2.1
            | exact leafR Q7.out.2.2 Q7.out.1 Q7.out.2.1 L3.out
      case rest =>
        obtain ⟨p7, p8, qa, qn, qc, ra, rn, rc, rfl, rfl, b7, b8, hq, hn, hbx⟩ := hcut
        obtain ⟨wx, hwx⟩ : ∃ W, W = wc := ⟨_, rfl⟩
        rw [← hwx] at b7 b8 hq hbx ⊢
        clear hwx
        have k7 := cell1 b7
        have k8 := cell1 b8
        have X0 : wx.cell? ⟨gl, i * 2, none⟩ = some (.string T) := (hbx.cell (block_lt_of_cell c0)).trans c0
        have hqn : qn ≤ 19 := row_n hq (Nat.lt_of_le_of_lt (Nat.div_le_self _ _) VB.out)
        obtain ⟨DV, hDV⟩ : ∃ D, D = dig (v / N) := ⟨_, rfl⟩
        have DS : DV.size ≤ 20 := by
          have q1 : nDigits (v / N) ≤ nDigits 9223372036854775807 := nd_mono _ _ (Nat.le_trans (Nat.div_le_self _ _) HV.out)
          have q2 := digs_max
          rw [hDV, dig_size, decDigits_length]; omega
        have HDV := Lib.hid hDV
        have hs : ¬ (DV.size + T.size > 9223372036854775807) := by have := NT.out.2.2.2.2; omega
        have TX : Hid (∀ W, Below wx.heap.size wx W → Calls Tryd.prog 13 #[.agg #[.slice qa qn qc]] W fun e w' => e = .returned (.string DV) ∧ Below W.heap.size W w') := Lib.hid fun W h => by rw [hDV]; exact text_any qa qn qc (v / N) W (hq.below h) (by omega)
        have Q0 : Hid (rn = (dg (v % N)).length ∧ Below wr.heap.size wr wx) := Lib.hid ⟨hn, hbx⟩
        have BX : Hid (Below wx.heap.size wx wx.drew) := Lib.hid ((Below.refl _ wx).drew)
        clear hq hn hbx hDV
        by_cases hz : rn = 0
        · subst hz
          have VN : Hid (v % N = 0) := Lib.hid (by have := Q0.out.1; rcases Nat.eq_zero_or_pos (v % N) with e | e; · exact e
                                                   · have := dg_some' e; omega)
          by_cases h7 : i < 7
          · have h7' : (i : Int) < 7 := by omega
            go_wp2_with fail
            go_region_held3 (fun W : World => W.cell? ⟨gl, i * 2, none⟩ = some (.string T) ∧ W.cell? ⟨p7, 0, none⟩ = some (.slice qa qn qc)) (first | (constructor <;> assumption) | go_keep) (first
              | (go_at_call 13
                 refine (TX.out _ BX.out).mono ?_
                 rintro e x8 ⟨rfl, hb8⟩
                 have Q8 : Hid (Below wr.heap.size wr x8) := Lib.hid (ht Q0.out.2 (BX.out.trans hb8))
                 have o1 : x8.cell? ⟨gl, i * 2, none⟩ = some (.string T) := ((BX.out.trans hb8).cell (block_lt_of_cell X0)).trans X0
                 have o2 : x8.cell? ⟨p7, 0, none⟩ = some (.slice qa qn qc) := ((BX.out.trans hb8).cell (block_lt_of_cell k7)).trans k7
                 clear hb8))
            all_goals
              go_wp2_with fail
              go_roundg (12 - (i + 1))
              case measure => have := R.out.1; omega
              case rel => exact ⟨i + 1, rfl, by omega, by omega, by first | rfl | (congr 1; omega), by rw [fs, if_pos ⟨hi1, h7, by rw [← NT.out.1]; exact VN.out⟩, ← NT.out.1, ← NT.out.2.1, ← HDV.out], by rw [sd, if_neg (fun c => by omega), ← HFD.out.2], ht R.out.2 Q8.out⟩
          · have h7' : ¬ (i : Int) < 7 := by omega
            go_wp2_with fail
            go_region_held3 (fun W : World => W.cell? ⟨gl, i * 2, none⟩ = some (.string T) ∧ W.cell? ⟨p7, 0, none⟩ = some (.slice qa qn qc)) (first | (constructor <;> assumption) | go_keep) (first
              | (go_at_call 13
                 refine (TX.out _ BX.out).mono ?_
                 rintro e x8 ⟨rfl, hb8⟩
                 have Q8 : Hid (Below wr.heap.size wr x8) := Lib.hid (ht Q0.out.2 (BX.out.trans hb8))
                 have o1 : x8.cell? ⟨gl, i * 2, none⟩ = some (.string T) := ((BX.out.trans hb8).cell (block_lt_of_cell X0)).trans X0
                 have o2 : x8.cell? ⟨p7, 0, none⟩ = some (.slice qa qn qc) := ((BX.out.trans hb8).cell (block_lt_of_cell k7)).trans k7
                 clear hb8))
            all_goals
              go_wp2_with fail
              go_roundg (12 - (i + 1))
              case measure => have := R.out.1; omega
              case rel => exact ⟨i + 1, rfl, by omega, by omega, by first | rfl | (congr 1; omega), by rw [fs, if_neg (fun c => by omega), ← HFD.out.1], by rw [sd, if_pos ⟨by omega, by rw [← NT.out.1]; exact VN.out⟩, ← NT.out.1, ← NT.out.2.1, ← HDV.out], ht R.out.2 Q8.out⟩
        · have hz' : ((rn : Int) == 0) = false := by rw [beq_eq_false_iff_ne]; omega
          have hz2 : ((rn : Int) != 0) = true := by rw [bne_iff_ne]; omega
          have VN : Hid (v % N ≠ 0) := Lib.hid (fun e => hz (by rw [Q0.out.1, e, dg_zero]; rfl))
          go_wp2_with fail
          go_roundg (12 - (i + 1))
          case measure => have := R.out.1; omega
          case rel => exact ⟨i + 1, rfl, by omega, by omega, by first | rfl | (congr 1; omega), by rw [fs, if_neg (fun c => VN.out (by rw [NT.out.1]; exact c.2.2)), ← HFD.out.1], by rw [sd, if_neg (fun c => VN.out (by rw [NT.out.1]; exact c.2)), ← HFD.out.2], ht R.out.2 Q0.out.2⟩
    · have hi12 : i = 12 := by omega
      subst hi12
      have HB : Hid (Below w.heap.size w wr) := Lib.hid (S1.out.2.trans (R.out.2.mono S1.out.2.size))
      go_wp2_with fail
      · rename_i h0
        go_ret
        refine ⟨?_, HB.out⟩
        have z := (tl0 D).1 h0
        rw [HX.out, ← HFD.out.1, ← HFD.out.2, if_neg (fun c => by have := c.1; omega)]; rfl
      · rename_i h0 h1
        go_ret
        refine ⟨?_, HB.out⟩
        have z : 0 < D.size := Nat.pos_of_ne_zero (fun e => h0 ((tl0 D).2 e))
        rw [HX.out, ← HFD.out.1, ← HFD.out.2, if_pos ⟨z, h1.2⟩]; rfl
      · rename_i h0 h1
        go_ret
        refine ⟨?_, HB.out⟩
        have z : ¬ D.size < F.size := by
          rcases h1 with q | q
          · exact absurd q (by simp [h0])
          · exact q
        rw [HX.out, ← HFD.out.1, ← HFD.out.2, if_neg (fun c => z c.2)]; rfl
end Lg
end Go.Proofs.YtjegjpdeclgegaaDoor
