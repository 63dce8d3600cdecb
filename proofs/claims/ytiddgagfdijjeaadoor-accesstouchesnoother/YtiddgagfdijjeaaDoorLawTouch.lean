/-
  AccessTouchesNoOther. (tools/gacto.py writes it.)
-/
import Derived.Test.YtiddgagfdijjeaaDoorAcJ
import Derived.Test.YtiddgagfdijjeaaDoorLawDown
import Derived.Lib.QuietBelow
import Derived.BigQuiet
namespace Go.Proofs.YtiddgagfdijjeaaDoor
open Go.RowKit
namespace Ac
theorem line_under {path x : ByteArray} (h : x ∈ lineP path) : L.underB path x = true := by
  unfold lineP at h
  split at h
  · rename_i ts hs
    obtain ⟨rfl, hg⟩ := L.splitO_some hs
    exact (L.under_line hg x).2 ((mem_line ts x).1 h)
  · simp at h
theorem isB_eq {a s : ByteArray} {r v : Int} (h : isB a r s v = true) : a = s := by
  unfold isB at h
  simp only [Bool.and_eq_true, beq_iff_eq] at h
  have e := h.1
  rw [ByteArray.toList_eq, ByteArray.toList_eq] at e
  exact ByteArray.ext (Array.ext' e)
theorem touch {D D' : DataW Unit} {o : Sp} (h : Ch D o D') (s path : ByteArray) (v : Int) :
    (MayP D' s v path ↔ MayP D s v path) ∨ (((∃ x, InD D x ∧ x.p = o.wh ∧ x.s = s) ∨ (o.kind = 1 ∧ o.b.s = s)) ∧ L.underB path o.wh = true) := by
  by_cases h1 : MayP D s v path
  · by_cases h2 : MayP D' s v path
    · exact Or.inl ⟨fun _ => h1, fun _ => h2⟩
    · rcases h1 with q | ⟨a, x, b, c, d⟩
      · exact absurd (Or.inl q) h2
      · rcases h.o x b with q | q
        · exact absurd (Or.inr ⟨a, x, q, c, d⟩) h2
        · exact Or.inr ⟨Or.inl ⟨x, b, q, isB_eq c⟩, by rw [← q]; exact line_under d⟩
  · by_cases h2 : MayP D' s v path
    · rcases h2 with q | ⟨a, x, b, c, d⟩
      · exact absurd (Or.inl q) h1
      · rcases h.i x b with q | ⟨q1, q2, q3⟩
        · exact absurd (Or.inr ⟨a, x, q, c, d⟩) h1
        · exact Or.inr ⟨Or.inr ⟨q2, by rw [← q3]; exact isB_eq c⟩, by rw [← q1]; exact line_under d⟩
    · exact Or.inl ⟨fun q => absurd q h2, fun q => absurd q h1⟩
/-- The row of what was. -/
def wasR (f : Nat → Bool) (k : Nat) : Array Value := #[.bool (decide (0 < k) && f 0), .bool (decide (1 < k) && f 1), .bool (decide (2 < k) && f 2), .bool (decide (3 < k) && f 3)]
theorem bd_at {w : World} {a : Option Addr} {n c : Nat} {l : List Bv} (H : Row kBv w (.slice a n c) l) (k : Nat) (hk : k < l.length) : ∃ b off, a = some ⟨b, off, none⟩ ∧ ∀ j y, ((l.getD k Bv.z).c)[j]? = some y → w.cell? ⟨b, off + k * 4 + j, none⟩ = some y := H.at k hk
theorem teq_yes (x : ByteArray) : (x.toList == x.toList) = true := beq_self_eq_true _
set_option maxHeartbeats 64000000 in
set_option maxRecDepth 100000 in
theorem touches (v0 : Value) (l : List Sp) (o : Sp) (s path : ByteArray) (w : World) (hm : L.HasM w) (hv : Row kSp w v0 l) (hf : ∀ o ∈ l, o.Fit) (hfo : o.Fit) :
    Calls Tryd.prog 5 #[v0, .agg o.cells.toArray, .string s, .string path] w fun e w' => e = .returned (.bool true) ∧ Below w.heap.size w w' := by
  obtain ⟨a0, c0, rfl, hlc, hcm⟩ := hv.len
  obtain ⟨n0, hn0⟩ : ∃ n0, n0 = l.length := ⟨_, rfl⟩
  rw [← hn0] at hv ⊢
  have hn1 : n0 ≤ 9223372036854775807 := by unfold maxLen at hcm; omega
  have FO := Lib.hid hfo
  obtain ⟨otwo, okind, overb, ⟨obp, obn, obs, obv⟩, op, oq, ou⟩ := o
  unfold Sp.cells
  simp only
  obtain ⟨g3, hg3⟩ : ∃ g, g = w.heap.size := ⟨_, rfl⟩
  obtain ⟨X, hX⟩ : ∃ X, X = w.alloc (.cells #[.bool otwo, .int .i64 okind, .int .i64 overb, .string obp, .string obn, .string obs, .int .i64 obv, .string op, .string oq, .string ou] 29) := ⟨_, rfl⟩
  have AX : Hid (Below w.heap.size w X ∧ X.heap[g3]? = some (.cells #[.bool otwo, .int .i64 okind, .int .i64 overb, .string obp, .string obn, .string obs, .int .i64 obv, .string op, .string oq, .string ou] 29 (0, 0))) := Lib.hid ⟨by rw [hX]; exact (Below.refl _ _).alloc (Nat.le_refl _) _, by rw [hX, hg3, heap_alloc_new]⟩
  have CE : Hid (∀ W, Below X.heap.size X W → W.cell? ⟨g3, 0, none⟩ = some (.bool otwo) ∧ W.cell? ⟨g3, 1, none⟩ = some (.int .i64 okind) ∧ W.cell? ⟨g3, 2, none⟩ = some (.int .i64 overb) ∧ W.cell? ⟨g3, 3, none⟩ = some (.string obp) ∧ W.cell? ⟨g3, 4, none⟩ = some (.string obn) ∧ W.cell? ⟨g3, 5, none⟩ = some (.string obs) ∧ W.cell? ⟨g3, 6, none⟩ = some (.int .i64 obv) ∧ W.cell? ⟨g3, 7, none⟩ = some (.string op) ∧ W.cell? ⟨g3, 8, none⟩ = some (.string oq) ∧ W.cell? ⟨g3, 9, none⟩ = some (.string ou)) := Lib.hid fun W h => by
    have e := (h.block g3 (lt_of_some AX.out.2)).trans AX.out.2
    refine ⟨?_, ?_, ?_, ?_, ?_, ?_, ?_, ?_, ?_, ?_⟩ <;> rw [cell_of_row _ _ _ _ _ _ e] <;> rfl
  have HV := Lib.hid (hv.below AX.out.1)
  have HF := Lib.hid hf
  have HN := Lib.hid hn0
  have HM := Lib.hid (hm.below AX.out.1)
  have hX' := hX.symm
  have hg3' := hg3.symm
  clear hX hg3 hv hf hm hlc hcm hn0 hfo
  go_enter Tryd.func5, Tryd.ntmps5
  go_wp2_with fail
  clear hX' hg3'
  refine (lives_any X HM.out).mono ?_
  rintro e w1 ⟨t, b, rfl, S1⟩
  have T1 : Hid (∃ D', Ta w1 t b (0 + 1) D' ∧ Below X.heap.size X w1 ∧ Vl D') := Lib.hid ⟨D2, S1.out.1, S1.out.2.1, vl_start⟩
  have LB : Hid (X.heap.size ≤ b) := Lib.hid S1.out.2.2
  clear S1
  go_wp2_with fail
  go_loopg [10] 60 (fun gg si wr => ∃ i : Nat, i ≤ 60 ∧ gg = 60 - i ∧ si = .int .i64 i ∧ Hid (∃ D', Ta wr t b (i + 1) D' ∧ Below X.heap.size X wr ∧ Vl D'))
  case atStart => exact ⟨0, by omega, rfl, rfl, T1⟩
  case round =>
    clear T1
    obtain ⟨i, hi, hg, rfl, S⟩ := hrel
    have G := Lib.hid hg
    clear hg
    by_cases hlt : i < n0 ∧ i < 60
    · have h1 : (i : Int) < (n0 : Int) := by omega
      have h2 : (i : Int) < 60 := by omega
      obtain ⟨D3, hT, hB, hV⟩ := S.out
      have T3 := Lib.hid (And.intro hT hB)
      have V3 := Lib.hid hV
      clear hT hB hV
      obtain ⟨bb, off, ea, pc⟩ := sp_at (HV.out.below T3.out.2) i (by rw [← HN.out]; exact hlt.1)
      subst ea
      have FT := Lib.hid (HF.out _ (show l.getD i kSp.z ∈ l by
        rw [List.getD_eq_getElem?_getD, List.getElem?_eq_getElem (by rw [← HN.out]; exact hlt.1)]
        exact List.getElem_mem _))
      obtain ⟨⟨two, kind, verb, ⟨bp, bn, bs, bv⟩, p, q, u⟩, ho⟩ : ∃ o, o = l.getD i kSp.z := ⟨_, rfl⟩
      rw [← ho] at pc FT
      have p0 : wr.cell? ⟨bb, off + i * 10, none⟩ = some (.bool two) := pc 0 _ rfl
      have p1 : wr.cell? ⟨bb, off + i * 10 + 1, none⟩ = some (.int .i64 kind) := pc 1 _ rfl
      have p2 : wr.cell? ⟨bb, off + i * 10 + 2, none⟩ = some (.int .i64 verb) := pc 2 _ rfl
      have p3 : wr.cell? ⟨bb, off + i * 10 + 3, none⟩ = some (.string bp) := pc 3 _ rfl
      have p4 : wr.cell? ⟨bb, off + i * 10 + 4, none⟩ = some (.string bn) := pc 4 _ rfl
      have p5 : wr.cell? ⟨bb, off + i * 10 + 5, none⟩ = some (.string bs) := pc 5 _ rfl
      have p6 : wr.cell? ⟨bb, off + i * 10 + 6, none⟩ = some (.int .i64 bv) := pc 6 _ rfl
      have p7 : wr.cell? ⟨bb, off + i * 10 + 7, none⟩ = some (.string p) := pc 7 _ rfl
      have p8 : wr.cell? ⟨bb, off + i * 10 + 8, none⟩ = some (.string q) := pc 8 _ rfl
      have p9 : wr.cell? ⟨bb, off + i * 10 + 9, none⟩ = some (.string u) := pc 9 _ rfl
      have PL := Lib.hid (play_ex ⟨two, kind, verb, ⟨bp, bn, bs, bv⟩, p, q, u⟩ wr t b (i + 1) D3 T3.out.1 (by omega) FT.out)
      unfold Sp.cells at PL
      simp only at PL
      clear pc ho S
      go_wp2_with fail
      refine PL.out.mono ?_
      rintro e w2 ⟨rfl, D4, hT4, hk4, hs4⟩
      have S4 : Hid (∃ D', Ta w2 t b (i + 1 + 1) D' ∧ Below X.heap.size X w2 ∧ Vl D') := Lib.hid ⟨D4, hT4, T3.out.2.trans (hk4.below T3.out.2.size (fun x e => by rw [e]; exact LB.out)), (hs4.ch T3.out.1.tb.m.isMap FT.out V3.out).v⟩
      clear hT4 hk4 hs4 p0 p1 p2 p3 p4 p5 p6 p7 p8 p9 PL
      go_wp2_with fail
      go_roundg (60 - (i + 1))
      case measure => have := G.out; omega
      case rel => exact ⟨i + 1, by omega, rfl, by go_num, S4⟩
    · obtain ⟨D3, hT, hB, hV⟩ := S.out
      have T3 := Lib.hid (And.intro hT hB)
      have V3 := Lib.hid hV
      clear hT hB hV S
      by_cases h1 : i < n0
      · have h1' : (i : Int) < (n0 : Int) := by omega
        have h2' : ¬ (i : Int) < 60 := by omega
        clear hlt
        by_cases hk1 : okind = 1
        · subst hk1
          obtain ⟨z0, z1, z2, z3, z4, z5, z6, z7, z8, z9⟩ := CE.out wr T3.out.2
          go_wp2_with fail
          refine (list_any wr t b (i + 1) D3 T3.out.1 (by omega) V3.out).mono ?_
          rintro e w3 ⟨v3, T, rfl, hrow, hli, hb⟩
          obtain ⟨a, c, rfl, hTc, hTm⟩ := hrow.len
          obtain ⟨m0, hm0⟩ : ∃ m, m = T.length := ⟨_, rfl⟩
          rw [← hm0] at hrow ⊢
          have S3 : Hid (Ta w3 t b (i + 1) D3 ∧ Below X.heap.size X w3 ∧ Row kBv w3 (.slice a m0 c) T ∧ Li D3 T ∧ m0 = T.length) := Lib.hid ⟨T3.out.1.below hb, T3.out.2.trans (hb.mono T3.out.2.size), hrow, hli, hm0⟩
          have hm1 : m0 ≤ 9223372036854775807 := by unfold maxLen at hTm; omega
          clear hb hrow hli hTc hTm hm0 z0 z1 z2 z3 z4 z5 z6 z7 z8 z9
          go_wp2_with fail
          go_loopg [13, 14] m0 (fun gg s1 s2 wx => ∃ (j : Nat) (tb : Bool), j ≤ m0 ∧ gg = m0 - j ∧ s1 = .bool tb ∧ s2 = .int .i64 j ∧ wx = w3 ∧ Hid ((∃ y ∈ T.take j, y.1.p = obp ∧ y.1.s = s) → tb = true))
          case atStart => exact ⟨0, false, by omega, rfl, rfl, rfl, rfl, Lib.hid (by simp)⟩
          case round =>
            obtain ⟨j, tb, hj, hg, rfl, rfl, hw, Q⟩ := hrel
            subst hw
            have G2 := Lib.hid hg
            clear hg
            by_cases hjn : j < m0
            · have hj' : (j : Int) < (m0 : Int) := by omega
              obtain ⟨bb, off, ea, pc⟩ := bd_at S3.out.2.2.1 j (by rw [← S3.out.2.2.2.2]; exact hjn)
              subst ea
              obtain ⟨y, hy⟩ : ∃ y, y = T.getD j Bv.z := ⟨_, rfl⟩
              rw [← hy] at pc
              have TK : Hid (T.take (j + 1) = T.take j ++ [y]) := Lib.hid (by
                have hl : j < T.length := by rw [← S3.out.2.2.2.2]; exact hjn
                rw [List.take_add_one, hy, List.getD_eq_getElem?_getD, List.getElem?_eq_getElem hl]; rfl)
              clear hy
              have p0 : wr.cell? ⟨bb, off + j * 4, none⟩ = some (.string y.1.p) := pc 0 _ rfl
              have p2 : wr.cell? ⟨bb, off + j * 4 + 2, none⟩ = some (.string y.1.s) := pc 2 _ rfl
              obtain ⟨yp, hyp⟩ : ∃ yp, yp = y.1.p := ⟨_, rfl⟩
              obtain ⟨ys, hys⟩ : ∃ ys, ys = y.1.s := ⟨_, rfl⟩
              rw [← hyp] at p0
              rw [← hys] at p2
              have YE := Lib.hid (And.intro hyp hys)
              clear pc hyp hys
              cases tb with
              | true =>
                go_wp2_with fail
                go_roundg (m0 - (j + 1))
                case measure => have := G2.out; omega
                case rel => exact ⟨j + 1, true, by omega, rfl, rfl, by go_num, rfl, Lib.hid (fun _ => rfl)⟩
              | false =>
                by_cases e1 : yp = obp
                · have q1 : (yp.toList == obp.toList) = true := by rw [e1]; exact teq_yes _
                  by_cases e2 : ys = s
                  · have q2 : (ys.toList == s.toList) = true := by rw [e2]; exact teq_yes _
                    clear e1 e2
                    go_wp2_with fail
                    go_roundg (m0 - (j + 1))
                    case measure => have := G2.out; omega
                    case rel => exact ⟨j + 1, true, by omega, rfl, rfl, by go_num, rfl, Lib.hid (fun _ => rfl)⟩
                  · have q2 := teq_no e2
                    have QN : Hid ((∃ y ∈ T.take (j + 1), y.1.p = obp ∧ y.1.s = s) → false = true) := Lib.hid (by
                      rintro ⟨y, hy, h1, h2⟩
                      rw [TK.out, List.mem_append, List.mem_singleton] at hy
                      rcases hy with hy | rfl
                      · exact Q.out ⟨y, hy, h1, h2⟩
                      · exact absurd (YE.out.2.trans h2) e2)
                    clear e1 e2
                    go_wp2_with fail
                    go_roundg (m0 - (j + 1))
                    case measure => have := G2.out; omega
                    case rel => exact ⟨j + 1, false, by omega, rfl, rfl, by go_num, rfl, QN⟩
                · have q1 := teq_no e1
                  have QN : Hid ((∃ y ∈ T.take (j + 1), y.1.p = obp ∧ y.1.s = s) → false = true) := Lib.hid (by
                    rintro ⟨y, hy, h1, h2⟩
                    rw [TK.out, List.mem_append, List.mem_singleton] at hy
                    rcases hy with hy | rfl
                    · exact Q.out ⟨y, hy, h1, h2⟩
                    · exact absurd (YE.out.1.trans h1) e1)
                  clear e1
                  go_wp2_with fail
                  go_roundg (m0 - (j + 1))
                  case measure => have := G2.out; omega
                  case rel => exact ⟨j + 1, false, by omega, rfl, rfl, by go_num, rfl, QN⟩
            · have hj' : ¬ (j : Int) < (m0 : Int) := by omega
              have TT : Hid ((∃ x, InD D3 x ∧ x.p = obp ∧ x.s = s) → tb = true) := Lib.hid (by
                rintro ⟨x, hx, h1, h2⟩
                obtain ⟨y, hy, rfl⟩ := (S3.out.2.2.2.1.m x).2 hx
                refine Q.out ⟨y, ?_, h1, h2⟩
                rw [List.take_of_length_le (by rw [← S3.out.2.2.2.2]; omega)]
                exact hy)
              clear Q hj'
              obtain ⟨W3, rfl⟩ : ∃ W3, W3 = wr := ⟨_, rfl⟩
              obtain ⟨z0, z1, z2, z3, z4, z5, z6, z7, z8, z9⟩ := CE.out W3 S3.out.2.1
              obtain ⟨gw, hgw⟩ : ∃ g, g = W3.heap.size := ⟨_, rfl⟩
              obtain ⟨Y, hY⟩ : ∃ Y, Y = W3.alloc (.cells #[.bool false, .bool false, .bool false, .bool false] 44) := ⟨_, rfl⟩
              obtain ⟨f, hF⟩ : ∃ f : Nat → Bool, ∀ v : Nat, f v = true ↔ MayP D3 s (v : Int) path := ⟨fun v => @decide (MayP D3 s (v : Int) path) (Classical.propDecidable _), fun v => by simp⟩
              have FH := Lib.hid hF
              clear hF
              have MY : Hid (∀ (W : World) (v : Nat), Ta W t b (i + 1) D3 → Calls Tryd.prog 11 #[.pointer (some ⟨t, 0, none⟩), .string s, .int .i64 (v : Int), .string path] W fun e w' => e = .returned (.bool (f v)) ∧ Below W.heap.size W w') := Lib.hid fun W v h => by
                refine (may_any s v path W t b (i + 1) D3 h).mono ?_
                rintro e w' ⟨r, rfl, h1, h2⟩
                refine ⟨?_, h2⟩
                have e : r = f v := by rw [Bool.eq_iff_iff, h1, FH.out]
                rw [e]
              have AY : Hid (Below W3.heap.size W3 Y ∧ Y.heap[gw]? = some (.cells (wasR f 0) 44 (0, 0)) ∧ gw = W3.heap.size) := Lib.hid ⟨by rw [hY]; exact (Below.refl _ _).alloc (Nat.le_refl _) _, by rw [hY, hgw, heap_alloc_new]; simp [wasR], hgw⟩
              have hY' := hY.symm
              have hgw' := hgw.symm
              clear hY hgw
              cases tb with
              | true =>
                clear TT
                go_wp2_with fail
                clear hY' hgw' z0 z1 z2 z3 z4 z5 z6 z7 z8 z9
                go_loopg [16] 4 (fun gg sv wx => ∃ k : Nat, k ≤ 4 ∧ gg = 4 - k ∧ sv = .int .i64 k ∧ Hid (Below W3.heap.size W3 wx ∧ wx.heap[gw]? = some (.cells (wasR f k) 44 (0, 0))))
                case atStart => exact ⟨0, by omega, rfl, rfl, Lib.hid ⟨AY.out.1, AY.out.2.1⟩⟩
                case round =>
                  obtain ⟨k, hk, hg, rfl, R⟩ := hrel
                  have G4 := Lib.hid hg
                  clear hg
                  by_cases hk4 : k < 4
                  · have hk4' : (k : Int) < 4 := by omega
                    have hk0 : ¬ (k : Int) < 0 := by omega
                    go_wp2_with fail
                    refine (MY.out wr k (S3.out.1.below R.out.1)).mono ?_
                    rintro e w6 ⟨rfl, hb⟩
                    have R6 : Hid (Below W3.heap.size W3 w6 ∧ w6.heap[gw]? = some (.cells (wasR f k) 44 (0, 0))) := Lib.hid ⟨R.out.1.trans (hb.mono R.out.1.size), (hb.block gw (lt_of_some R.out.2)).trans R.out.2⟩
                    have c6 : w6.cell? ⟨gw, k, none⟩ = some (.bool (decide (k < k) && f k)) := by
                      rw [cell_of_row _ _ _ _ _ _ R6.out.2]
                      obtain rfl | rfl | rfl | rfl : k = 0 ∨ k = 1 ∨ k = 2 ∨ k = 3 := by omega
                      all_goals rfl
                    have fz6 : w6.frozen? ⟨gw, k, none⟩ = false := by simp [World.frozen?, R6.out.2]
                    have R7 : Hid (Below W3.heap.size W3 (w6.setCell ⟨gw, k, none⟩ (.bool (f k))) ∧ (w6.setCell ⟨gw, k, none⟩ (.bool (f k))).heap[gw]? = some (.cells (wasR f (k + 1)) 44 (0, 0))) := Lib.hid ⟨R6.out.1.setCell (p := ⟨gw, k, none⟩) (by have := AY.out.2.2; simp only; omega) _, by
                      rw [heap_setCell_same _ _ _ _ _ _ R6.out.2]
                      obtain rfl | rfl | rfl | rfl : k = 0 ∨ k = 1 ∨ k = 2 ∨ k = 3 := by omega
                      all_goals (simp [wasR])⟩
                    clear hb
                    go_wp2_with fail
                    go_roundg (4 - (k + 1))
                    case measure => have := G4.out; omega
                    case rel => exact ⟨k + 1, by omega, rfl, by go_num, R7⟩
                  · have hk4' : ¬ (k : Int) < 4 := by omega
                    have RE : Hid (Below W3.heap.size W3 wr ∧ wr.heap[gw]? = some (.cells (wasR f 4) 44 (0, 0)) ∧ Below X.heap.size X wr) := Lib.hid ⟨R.out.1, by rw [R.out.2, show k = 4 by omega], S3.out.2.1.trans (R.out.1.mono S3.out.2.1.size)⟩
                    obtain ⟨z0, z1, z2, z3, z4, z5, z6, z7, z8, z9⟩ := CE.out wr RE.out.2.2
                    have PL := Lib.hid (play_ex ⟨otwo, 1, overb, ⟨obp, obn, obs, obv⟩, op, oq, ou⟩ wr t b (i + 1) D3 (S3.out.1.below RE.out.1) (by omega) FO.out)
                    unfold Sp.cells at PL
                    simp only at PL
                    clear R
                    go_wp2_with fail
                    refine PL.out.mono ?_
                    rintro e w5 ⟨rfl, D5, hT5, hk5, hs5⟩
                    have CH : Hid (Ch D3 ⟨otwo, 1, overb, ⟨obp, obn, obs, obv⟩, op, oq, ou⟩ D5) := Lib.hid (hs5.ch S3.out.1.tb.m.isMap FO.out V3.out)
                    have S5 : Hid (Ta w5 t b (i + 1 + 1) D5 ∧ Below X.heap.size X w5 ∧ w5.heap[gw]? = some (.cells (wasR f 4) 44 (0, 0))) := Lib.hid (by
                      have hb1 : b < gw := by rw [AY.out.2.2]; exact S3.out.1.tb.m.lt
                      exact ⟨hT5, RE.out.2.2.trans (hk5.below RE.out.2.2.size (fun x e => by rw [e]; exact LB.out)), (hk5.block gw (lt_of_some RE.out.2.1) (by omega)).trans RE.out.2.1⟩)
                    clear hT5 hk5 hs5 PL z0 z1 z2 z3 z4 z5 z6 z7 z8 z9
                    obtain ⟨f5, hF5⟩ : ∃ f : Nat → Bool, ∀ v : Nat, f v = true ↔ MayP D5 s (v : Int) path := ⟨fun v => @decide (MayP D5 s (v : Int) path) (Classical.propDecidable _), fun v => by simp⟩
                    have TOU : Hid (∀ v : Nat, f5 v = f v ∨ (true = true ∧ L.underB path obp = true)) := Lib.hid fun v => by
                      have ew : Sp.wh ⟨otwo, 1, overb, ⟨obp, obn, obs, obv⟩, op, oq, ou⟩ = obp := by unfold Sp.wh; rw [if_pos rfl]
                      have q := touch CH.out s path (v : Int)
                      rw [ew] at q
                      rcases q with q | q
                      · refine Or.inl ?_
                        rw [Bool.eq_iff_iff, hF5, FH.out]; exact q
                      · exact Or.inr ⟨rfl, q.2⟩
                    have M5 : Hid (∀ (W : World) (v : Nat), Ta W t b (i + 1 + 1) D5 → Calls Tryd.prog 11 #[.pointer (some ⟨t, 0, none⟩), .string s, .int .i64 (v : Int), .string path] W fun e w' => e = .returned (.bool (f5 v)) ∧ Below W.heap.size W w') := Lib.hid fun W v h => by
                      refine (may_any s v path W t b (i + 1 + 1) D5 h).mono ?_
                      rintro e w' ⟨r, rfl, h1, h2⟩
                      refine ⟨?_, h2⟩
                      have e : r = f5 v := by rw [Bool.eq_iff_iff, h1, hF5]
                      rw [e]
                    have HF5 := Lib.hid hF5
                    clear hF5
                    go_wp2_with fail
                    go_loopg [17] 4 (fun gg sv wx => ∃ k : Nat, k ≤ 4 ∧ gg = 4 - k ∧ sv = .int .i64 k ∧ Hid (Below w5.heap.size w5 wx))
                    case atStart => exact ⟨0, by omega, rfl, rfl, Lib.hid (Below.refl _ _)⟩
                    case round =>
                      clear RE hk4 hk4' G4
                      obtain ⟨j, hj, hg, rfl, R⟩ := hrel
                      have G5 := Lib.hid hg
                      clear hg
                      by_cases hj4 : j < 4
                      · have hj4' : (j : Int) < 4 := by omega
                        have hj0 : ¬ (j : Int) < 0 := by omega
                        have d0 : decide ((j : Int) < 0) = false := decide_eq_false hj0
                        have XR := Lib.hid (S5.out.1.below R.out)
                        have RC : ∀ (dq : Nat) (os : Array Obj), (Go.Sort.grow (redrawn wr dq) os).cell? ⟨gw, j, none⟩ = some (.bool (f j)) := fun dq os => cell_regrown (by
                          rw [cell_of_row _ _ _ _ _ _ ((R.out.block gw (lt_of_some S5.out.2.2)).trans S5.out.2.2)]
                          obtain rfl | rfl | rfl | rfl : j = 0 ∨ j = 1 ∨ j = 2 ∨ j = 3 := by omega
                          all_goals (simp [wasR])) dq os
                        have MQ : Hid (∀ (dq : Nat) (os : Array Obj), Calls Tryd.prog 11 #[.pointer (some ⟨t, 0, none⟩), .string s, .int .i64 (j : Int), .string path] (Go.Sort.grow (redrawn wr dq) os) fun e w'' => e = .returned (.bool (f5 j)) ∧ ∃ p : Regrown, w'' = Go.Sort.grow (redrawn wr p.d) p.os) := Lib.hid (fun dq os => Calls.regrown_of (M5.out _ j (XR.out.below (below_regrown wr dq os))))
                        have UQ : Hid (∀ (dq : Nat) (os : Array Obj), Calls Tryd.prog 17 #[.string path, .string obp] (Go.Sort.grow (redrawn wr dq) os) fun e w'' => e = .returned (.bool (L.underB path obp)) ∧ ∃ p : Regrown, w'' = Go.Sort.grow (redrawn wr p.d) p.os) := Lib.hid (fun dq os => Calls.regrown_of (L.under_any path obp _ (XR.out.hm.below (below_regrown wr dq os))))
                        by_cases ej : f5 j = f j
                        · have ne : (f5 j != f j) = false := by rw [ej]; exact bne_self_eq_false _
                          have ne2 : (f5 j == f j) = true := by rw [ej]; exact beq_self_eq_true _
                          clear TOU ej
                          go_wp2_with fail
                          refine wp_region_quiet_below (by kernel_rfl) (by kernel_rfl) ?_
                          repeat (go_big_quiet_step (first | with_reducible exact MQ.out _ _ | with_reducible exact UQ.out _ _))
                          refine wpQuiet_nil ?_
                          intro _ hw'
                          obtain ⟨⟨dq, osq⟩, hw''⟩ := hw'
                          subst hw''
                          go_wp2_with fail
                          go_roundg (4 - (j + 1))
                          case measure => have := G5.out; omega
                          case rel => exact ⟨j + 1, by omega, rfl, by go_num, Lib.hid (R.out.trans ((below_regrown wr dq osq).mono R.out.size))⟩
                        · have eu := ((TOU.out j).resolve_left ej).2
                          have ne : (f5 j != f j) = true := by rw [bne_iff_ne]; exact ej
                          have ne2 : (f5 j == f j) = false := by rw [beq_eq_false_iff_ne]; exact ej
                          rw [eu] at UQ
                          clear TOU ej eu
                          go_wp2_with fail
                          refine wp_region_quiet_below (by kernel_rfl) (by kernel_rfl) ?_
                          repeat (go_big_quiet_step (first | with_reducible exact MQ.out _ _ | with_reducible exact UQ.out _ _))
                          refine wpQuiet_nil ?_
                          intro _ hw'
                          obtain ⟨⟨dq, osq⟩, hw''⟩ := hw'
                          subst hw''
                          go_wp2_with fail
                          go_roundg (4 - (j + 1))
                          case measure => have := G5.out; omega
                          case rel => exact ⟨j + 1, by omega, rfl, by go_num, Lib.hid (R.out.trans ((below_regrown wr dq osq).mono R.out.size))⟩
                      · have hj4' : ¬ (j : Int) < 4 := by omega
                        go_wp2_with fail
                        go_ret
                        exact ⟨rfl, AX.out.1.trans ((S5.out.2.1.trans (R.out.mono S5.out.2.1.size)).mono AX.out.1.size)⟩
              | false =>
                by_cases e3 : obs = s
                · have q3 : (obs.toList == s.toList) = true := by rw [e3]; exact teq_yes _
                  clear TT e3
                  go_wp2_with fail
                  clear hY' hgw' z0 z1 z2 z3 z4 z5 z6 z7 z8 z9
                  go_loopg [16] 4 (fun gg sv wx => ∃ k : Nat, k ≤ 4 ∧ gg = 4 - k ∧ sv = .int .i64 k ∧ Hid (Below W3.heap.size W3 wx ∧ wx.heap[gw]? = some (.cells (wasR f k) 44 (0, 0))))
                  case atStart => exact ⟨0, by omega, rfl, rfl, Lib.hid ⟨AY.out.1, AY.out.2.1⟩⟩
                  case round =>
                    obtain ⟨k, hk, hg, rfl, R⟩ := hrel
                    have G4 := Lib.hid hg
                    clear hg
                    by_cases hk4 : k < 4
                    · have hk4' : (k : Int) < 4 := by omega
                      have hk0 : ¬ (k : Int) < 0 := by omega
                      go_wp2_with fail
                      refine (MY.out wr k (S3.out.1.below R.out.1)).mono ?_
                      rintro e w6 ⟨rfl, hb⟩
                      have R6 : Hid (Below W3.heap.size W3 w6 ∧ w6.heap[gw]? = some (.cells (wasR f k) 44 (0, 0))) := Lib.hid ⟨R.out.1.trans (hb.mono R.out.1.size), (hb.block gw (lt_of_some R.out.2)).trans R.out.2⟩
                      have c6 : w6.cell? ⟨gw, k, none⟩ = some (.bool (decide (k < k) && f k)) := by
                        rw [cell_of_row _ _ _ _ _ _ R6.out.2]
                        obtain rfl | rfl | rfl | rfl : k = 0 ∨ k = 1 ∨ k = 2 ∨ k = 3 := by omega
                        all_goals rfl
                      have fz6 : w6.frozen? ⟨gw, k, none⟩ = false := by simp [World.frozen?, R6.out.2]
                      have R7 : Hid (Below W3.heap.size W3 (w6.setCell ⟨gw, k, none⟩ (.bool (f k))) ∧ (w6.setCell ⟨gw, k, none⟩ (.bool (f k))).heap[gw]? = some (.cells (wasR f (k + 1)) 44 (0, 0))) := Lib.hid ⟨R6.out.1.setCell (p := ⟨gw, k, none⟩) (by have := AY.out.2.2; simp only; omega) _, by
                        rw [heap_setCell_same _ _ _ _ _ _ R6.out.2]
                        obtain rfl | rfl | rfl | rfl : k = 0 ∨ k = 1 ∨ k = 2 ∨ k = 3 := by omega
                        all_goals (simp [wasR])⟩
                      clear hb
                      go_wp2_with fail
                      go_roundg (4 - (k + 1))
                      case measure => have := G4.out; omega
                      case rel => exact ⟨k + 1, by omega, rfl, by go_num, R7⟩
                    · have hk4' : ¬ (k : Int) < 4 := by omega
                      have RE : Hid (Below W3.heap.size W3 wr ∧ wr.heap[gw]? = some (.cells (wasR f 4) 44 (0, 0)) ∧ Below X.heap.size X wr) := Lib.hid ⟨R.out.1, by rw [R.out.2, show k = 4 by omega], S3.out.2.1.trans (R.out.1.mono S3.out.2.1.size)⟩
                      obtain ⟨z0, z1, z2, z3, z4, z5, z6, z7, z8, z9⟩ := CE.out wr RE.out.2.2
                      have PL := Lib.hid (play_ex ⟨otwo, 1, overb, ⟨obp, obn, obs, obv⟩, op, oq, ou⟩ wr t b (i + 1) D3 (S3.out.1.below RE.out.1) (by omega) FO.out)
                      unfold Sp.cells at PL
                      simp only at PL
                      clear R
                      go_wp2_with fail
                      refine PL.out.mono ?_
                      rintro e w5 ⟨rfl, D5, hT5, hk5, hs5⟩
                      have CH : Hid (Ch D3 ⟨otwo, 1, overb, ⟨obp, obn, obs, obv⟩, op, oq, ou⟩ D5) := Lib.hid (hs5.ch S3.out.1.tb.m.isMap FO.out V3.out)
                      have S5 : Hid (Ta w5 t b (i + 1 + 1) D5 ∧ Below X.heap.size X w5 ∧ w5.heap[gw]? = some (.cells (wasR f 4) 44 (0, 0))) := Lib.hid (by
                        have hb1 : b < gw := by rw [AY.out.2.2]; exact S3.out.1.tb.m.lt
                        exact ⟨hT5, RE.out.2.2.trans (hk5.below RE.out.2.2.size (fun x e => by rw [e]; exact LB.out)), (hk5.block gw (lt_of_some RE.out.2.1) (by omega)).trans RE.out.2.1⟩)
                      clear hT5 hk5 hs5 PL z0 z1 z2 z3 z4 z5 z6 z7 z8 z9
                      obtain ⟨f5, hF5⟩ : ∃ f : Nat → Bool, ∀ v : Nat, f v = true ↔ MayP D5 s (v : Int) path := ⟨fun v => @decide (MayP D5 s (v : Int) path) (Classical.propDecidable _), fun v => by simp⟩
                      have TOU : Hid (∀ v : Nat, f5 v = f v ∨ (true = true ∧ L.underB path obp = true)) := Lib.hid fun v => by
                        have ew : Sp.wh ⟨otwo, 1, overb, ⟨obp, obn, obs, obv⟩, op, oq, ou⟩ = obp := by unfold Sp.wh; rw [if_pos rfl]
                        have q := touch CH.out s path (v : Int)
                        rw [ew] at q
                        rcases q with q | q
                        · refine Or.inl ?_
                          rw [Bool.eq_iff_iff, hF5, FH.out]; exact q
                        · exact Or.inr ⟨rfl, q.2⟩
                      have M5 : Hid (∀ (W : World) (v : Nat), Ta W t b (i + 1 + 1) D5 → Calls Tryd.prog 11 #[.pointer (some ⟨t, 0, none⟩), .string s, .int .i64 (v : Int), .string path] W fun e w' => e = .returned (.bool (f5 v)) ∧ Below W.heap.size W w') := Lib.hid fun W v h => by
                        refine (may_any s v path W t b (i + 1 + 1) D5 h).mono ?_
                        rintro e w' ⟨r, rfl, h1, h2⟩
                        refine ⟨?_, h2⟩
                        have e : r = f5 v := by rw [Bool.eq_iff_iff, h1, hF5]
                        rw [e]
                      have HF5 := Lib.hid hF5
                      clear hF5
                      go_wp2_with fail
                      go_loopg [17] 4 (fun gg sv wx => ∃ k : Nat, k ≤ 4 ∧ gg = 4 - k ∧ sv = .int .i64 k ∧ Hid (Below w5.heap.size w5 wx))
                      case atStart => exact ⟨0, by omega, rfl, rfl, Lib.hid (Below.refl _ _)⟩
                      case round =>
                        clear RE hk4 hk4' G4
                        obtain ⟨j, hj, hg, rfl, R⟩ := hrel
                        have G5 := Lib.hid hg
                        clear hg
                        by_cases hj4 : j < 4
                        · have hj4' : (j : Int) < 4 := by omega
                          have hj0 : ¬ (j : Int) < 0 := by omega
                          have d0 : decide ((j : Int) < 0) = false := decide_eq_false hj0
                          have XR := Lib.hid (S5.out.1.below R.out)
                          have RC : ∀ (dq : Nat) (os : Array Obj), (Go.Sort.grow (redrawn wr dq) os).cell? ⟨gw, j, none⟩ = some (.bool (f j)) := fun dq os => cell_regrown (by
                            rw [cell_of_row _ _ _ _ _ _ ((R.out.block gw (lt_of_some S5.out.2.2)).trans S5.out.2.2)]
                            obtain rfl | rfl | rfl | rfl : j = 0 ∨ j = 1 ∨ j = 2 ∨ j = 3 := by omega
                            all_goals (simp [wasR])) dq os
                          have MQ : Hid (∀ (dq : Nat) (os : Array Obj), Calls Tryd.prog 11 #[.pointer (some ⟨t, 0, none⟩), .string s, .int .i64 (j : Int), .string path] (Go.Sort.grow (redrawn wr dq) os) fun e w'' => e = .returned (.bool (f5 j)) ∧ ∃ p : Regrown, w'' = Go.Sort.grow (redrawn wr p.d) p.os) := Lib.hid (fun dq os => Calls.regrown_of (M5.out _ j (XR.out.below (below_regrown wr dq os))))
                          have UQ : Hid (∀ (dq : Nat) (os : Array Obj), Calls Tryd.prog 17 #[.string path, .string obp] (Go.Sort.grow (redrawn wr dq) os) fun e w'' => e = .returned (.bool (L.underB path obp)) ∧ ∃ p : Regrown, w'' = Go.Sort.grow (redrawn wr p.d) p.os) := Lib.hid (fun dq os => Calls.regrown_of (L.under_any path obp _ (XR.out.hm.below (below_regrown wr dq os))))
                          by_cases ej : f5 j = f j
                          · have ne : (f5 j != f j) = false := by rw [ej]; exact bne_self_eq_false _
                            have ne2 : (f5 j == f j) = true := by rw [ej]; exact beq_self_eq_true _
                            clear TOU ej
                            go_wp2_with fail
                            refine wp_region_quiet_below (by kernel_rfl) (by kernel_rfl) ?_
                            repeat (go_big_quiet_step (first | with_reducible exact MQ.out _ _ | with_reducible exact UQ.out _ _))
                            refine wpQuiet_nil ?_
                            intro _ hw'
                            obtain ⟨⟨dq, osq⟩, hw''⟩ := hw'
                            subst hw''
                            go_wp2_with fail
                            go_roundg (4 - (j + 1))
                            case measure => have := G5.out; omega
                            case rel => exact ⟨j + 1, by omega, rfl, by go_num, Lib.hid (R.out.trans ((below_regrown wr dq osq).mono R.out.size))⟩
                          · have eu := ((TOU.out j).resolve_left ej).2
                            have ne : (f5 j != f j) = true := by rw [bne_iff_ne]; exact ej
                            have ne2 : (f5 j == f j) = false := by rw [beq_eq_false_iff_ne]; exact ej
                            rw [eu] at UQ
                            clear TOU ej eu
                            go_wp2_with fail
                            refine wp_region_quiet_below (by kernel_rfl) (by kernel_rfl) ?_
                            repeat (go_big_quiet_step (first | with_reducible exact MQ.out _ _ | with_reducible exact UQ.out _ _))
                            refine wpQuiet_nil ?_
                            intro _ hw'
                            obtain ⟨⟨dq, osq⟩, hw''⟩ := hw'
                            subst hw''
                            go_wp2_with fail
                            go_roundg (4 - (j + 1))
                            case measure => have := G5.out; omega
                            case rel => exact ⟨j + 1, by omega, rfl, by go_num, Lib.hid (R.out.trans ((below_regrown wr dq osq).mono R.out.size))⟩
                        · have hj4' : ¬ (j : Int) < 4 := by omega
                          go_wp2_with fail
                          go_ret
                          exact ⟨rfl, AX.out.1.trans ((S5.out.2.1.trans (R.out.mono S5.out.2.1.size)).mono AX.out.1.size)⟩
                · have q3 := teq_no e3
                  have TF : Hid ((∃ x, InD D3 x ∧ x.p = obp ∧ x.s = s) ∨ obs = s → false = true) := Lib.hid (fun h => h.elim TT.out (fun q => absurd q e3))
                  clear TT e3
                  go_wp2_with fail
                  clear hY' hgw' z0 z1 z2 z3 z4 z5 z6 z7 z8 z9
                  go_loopg [16] 4 (fun gg sv wx => ∃ k : Nat, k ≤ 4 ∧ gg = 4 - k ∧ sv = .int .i64 k ∧ Hid (Below W3.heap.size W3 wx ∧ wx.heap[gw]? = some (.cells (wasR f k) 44 (0, 0))))
                  case atStart => exact ⟨0, by omega, rfl, rfl, Lib.hid ⟨AY.out.1, AY.out.2.1⟩⟩
                  case round =>
                    obtain ⟨k, hk, hg, rfl, R⟩ := hrel
                    have G4 := Lib.hid hg
                    clear hg
                    by_cases hk4 : k < 4
                    · have hk4' : (k : Int) < 4 := by omega
                      have hk0 : ¬ (k : Int) < 0 := by omega
                      go_wp2_with fail
                      refine (MY.out wr k (S3.out.1.below R.out.1)).mono ?_
                      rintro e w6 ⟨rfl, hb⟩
                      have R6 : Hid (Below W3.heap.size W3 w6 ∧ w6.heap[gw]? = some (.cells (wasR f k) 44 (0, 0))) := Lib.hid ⟨R.out.1.trans (hb.mono R.out.1.size), (hb.block gw (lt_of_some R.out.2)).trans R.out.2⟩
                      have c6 : w6.cell? ⟨gw, k, none⟩ = some (.bool (decide (k < k) && f k)) := by
                        rw [cell_of_row _ _ _ _ _ _ R6.out.2]
                        obtain rfl | rfl | rfl | rfl : k = 0 ∨ k = 1 ∨ k = 2 ∨ k = 3 := by omega
                        all_goals rfl
                      have fz6 : w6.frozen? ⟨gw, k, none⟩ = false := by simp [World.frozen?, R6.out.2]
                      have R7 : Hid (Below W3.heap.size W3 (w6.setCell ⟨gw, k, none⟩ (.bool (f k))) ∧ (w6.setCell ⟨gw, k, none⟩ (.bool (f k))).heap[gw]? = some (.cells (wasR f (k + 1)) 44 (0, 0))) := Lib.hid ⟨R6.out.1.setCell (p := ⟨gw, k, none⟩) (by have := AY.out.2.2; simp only; omega) _, by
                        rw [heap_setCell_same _ _ _ _ _ _ R6.out.2]
                        obtain rfl | rfl | rfl | rfl : k = 0 ∨ k = 1 ∨ k = 2 ∨ k = 3 := by omega
                        all_goals (simp [wasR])⟩
                      clear hb
                      go_wp2_with fail
                      go_roundg (4 - (k + 1))
                      case measure => have := G4.out; omega
                      case rel => exact ⟨k + 1, by omega, rfl, by go_num, R7⟩
                    · have hk4' : ¬ (k : Int) < 4 := by omega
                      have RE : Hid (Below W3.heap.size W3 wr ∧ wr.heap[gw]? = some (.cells (wasR f 4) 44 (0, 0)) ∧ Below X.heap.size X wr) := Lib.hid ⟨R.out.1, by rw [R.out.2, show k = 4 by omega], S3.out.2.1.trans (R.out.1.mono S3.out.2.1.size)⟩
                      obtain ⟨z0, z1, z2, z3, z4, z5, z6, z7, z8, z9⟩ := CE.out wr RE.out.2.2
                      have PL := Lib.hid (play_ex ⟨otwo, 1, overb, ⟨obp, obn, obs, obv⟩, op, oq, ou⟩ wr t b (i + 1) D3 (S3.out.1.below RE.out.1) (by omega) FO.out)
                      unfold Sp.cells at PL
                      simp only at PL
                      clear R
                      go_wp2_with fail
                      refine PL.out.mono ?_
                      rintro e w5 ⟨rfl, D5, hT5, hk5, hs5⟩
                      have CH : Hid (Ch D3 ⟨otwo, 1, overb, ⟨obp, obn, obs, obv⟩, op, oq, ou⟩ D5) := Lib.hid (hs5.ch S3.out.1.tb.m.isMap FO.out V3.out)
                      have S5 : Hid (Ta w5 t b (i + 1 + 1) D5 ∧ Below X.heap.size X w5 ∧ w5.heap[gw]? = some (.cells (wasR f 4) 44 (0, 0))) := Lib.hid (by
                        have hb1 : b < gw := by rw [AY.out.2.2]; exact S3.out.1.tb.m.lt
                        exact ⟨hT5, RE.out.2.2.trans (hk5.below RE.out.2.2.size (fun x e => by rw [e]; exact LB.out)), (hk5.block gw (lt_of_some RE.out.2.1) (by omega)).trans RE.out.2.1⟩)
                      clear hT5 hk5 hs5 PL z0 z1 z2 z3 z4 z5 z6 z7 z8 z9
                      obtain ⟨f5, hF5⟩ : ∃ f : Nat → Bool, ∀ v : Nat, f v = true ↔ MayP D5 s (v : Int) path := ⟨fun v => @decide (MayP D5 s (v : Int) path) (Classical.propDecidable _), fun v => by simp⟩
                      have TOU : Hid (∀ v : Nat, f5 v = f v ∨ (false = true ∧ L.underB path obp = true)) := Lib.hid fun v => by
                        have ew : Sp.wh ⟨otwo, 1, overb, ⟨obp, obn, obs, obv⟩, op, oq, ou⟩ = obp := by unfold Sp.wh; rw [if_pos rfl]
                        have q := touch CH.out s path (v : Int)
                        rw [ew] at q
                        rcases q with q | q
                        · refine Or.inl ?_
                          rw [Bool.eq_iff_iff, hF5, FH.out]; exact q
                        · exact Or.inr ⟨TF.out (q.1.imp id (fun q => q.2)), q.2⟩
                      have M5 : Hid (∀ (W : World) (v : Nat), Ta W t b (i + 1 + 1) D5 → Calls Tryd.prog 11 #[.pointer (some ⟨t, 0, none⟩), .string s, .int .i64 (v : Int), .string path] W fun e w' => e = .returned (.bool (f5 v)) ∧ Below W.heap.size W w') := Lib.hid fun W v h => by
                        refine (may_any s v path W t b (i + 1 + 1) D5 h).mono ?_
                        rintro e w' ⟨r, rfl, h1, h2⟩
                        refine ⟨?_, h2⟩
                        have e : r = f5 v := by rw [Bool.eq_iff_iff, h1, hF5]
                        rw [e]
                      have HF5 := Lib.hid hF5
                      clear hF5
                      go_wp2_with fail
                      go_loopg [17] 4 (fun gg sv wx => ∃ k : Nat, k ≤ 4 ∧ gg = 4 - k ∧ sv = .int .i64 k ∧ Hid (Below w5.heap.size w5 wx))
                      case atStart => exact ⟨0, by omega, rfl, rfl, Lib.hid (Below.refl _ _)⟩
                      case round =>
                        clear RE hk4 hk4' G4
                        obtain ⟨j, hj, hg, rfl, R⟩ := hrel
                        have G5 := Lib.hid hg
                        clear hg
                        by_cases hj4 : j < 4
                        · have hj4' : (j : Int) < 4 := by omega
                          have hj0 : ¬ (j : Int) < 0 := by omega
                          have d0 : decide ((j : Int) < 0) = false := decide_eq_false hj0
                          have XR := Lib.hid (S5.out.1.below R.out)
                          have RC : ∀ (dq : Nat) (os : Array Obj), (Go.Sort.grow (redrawn wr dq) os).cell? ⟨gw, j, none⟩ = some (.bool (f j)) := fun dq os => cell_regrown (by
                            rw [cell_of_row _ _ _ _ _ _ ((R.out.block gw (lt_of_some S5.out.2.2)).trans S5.out.2.2)]
                            obtain rfl | rfl | rfl | rfl : j = 0 ∨ j = 1 ∨ j = 2 ∨ j = 3 := by omega
                            all_goals (simp [wasR])) dq os
                          have MQ : Hid (∀ (dq : Nat) (os : Array Obj), Calls Tryd.prog 11 #[.pointer (some ⟨t, 0, none⟩), .string s, .int .i64 (j : Int), .string path] (Go.Sort.grow (redrawn wr dq) os) fun e w'' => e = .returned (.bool (f5 j)) ∧ ∃ p : Regrown, w'' = Go.Sort.grow (redrawn wr p.d) p.os) := Lib.hid (fun dq os => Calls.regrown_of (M5.out _ j (XR.out.below (below_regrown wr dq os))))
                          have UQ : Hid (∀ (dq : Nat) (os : Array Obj), Calls Tryd.prog 17 #[.string path, .string obp] (Go.Sort.grow (redrawn wr dq) os) fun e w'' => e = .returned (.bool (L.underB path obp)) ∧ ∃ p : Regrown, w'' = Go.Sort.grow (redrawn wr p.d) p.os) := Lib.hid (fun dq os => Calls.regrown_of (L.under_any path obp _ (XR.out.hm.below (below_regrown wr dq os))))
                          by_cases ej : f5 j = f j
                          · have ne : (f5 j != f j) = false := by rw [ej]; exact bne_self_eq_false _
                            have ne2 : (f5 j == f j) = true := by rw [ej]; exact beq_self_eq_true _
                            clear TOU ej
                            go_wp2_with fail
                            refine wp_region_quiet_below (by kernel_rfl) (by kernel_rfl) ?_
                            repeat (go_big_quiet_step (first | with_reducible exact MQ.out _ _ | with_reducible exact UQ.out _ _))
                            refine wpQuiet_nil ?_
                            intro _ hw'
                            obtain ⟨⟨dq, osq⟩, hw''⟩ := hw'
                            subst hw''
                            go_wp2_with fail
                            go_roundg (4 - (j + 1))
                            case measure => have := G5.out; omega
                            case rel => exact ⟨j + 1, by omega, rfl, by go_num, Lib.hid (R.out.trans ((below_regrown wr dq osq).mono R.out.size))⟩
                          · exact absurd ((TOU.out j).resolve_left ej).1 (by decide)
                        · have hj4' : ¬ (j : Int) < 4 := by omega
                          go_wp2_with fail
                          go_ret
                          exact ⟨rfl, AX.out.1.trans ((S5.out.2.1.trans (R.out.mono S5.out.2.1.size)).mono AX.out.1.size)⟩
        · have gk1 : (okind == 1) = false := by rw [beq_eq_false_iff_ne]; exact hk1
          have NK := Lib.hid hk1
          clear hk1
          obtain ⟨z0, z1, z2, z3, z4, z5, z6, z7, z8, z9⟩ := CE.out wr T3.out.2
          go_wp2_with fail
          refine (list_any wr t b (i + 1) D3 T3.out.1 (by omega) V3.out).mono ?_
          rintro e w3 ⟨v3, T, rfl, hrow, hli, hb⟩
          obtain ⟨a, c, rfl, hTc, hTm⟩ := hrow.len
          obtain ⟨m0, hm0⟩ : ∃ m, m = T.length := ⟨_, rfl⟩
          rw [← hm0] at hrow ⊢
          have S3 : Hid (Ta w3 t b (i + 1) D3 ∧ Below X.heap.size X w3 ∧ Row kBv w3 (.slice a m0 c) T ∧ Li D3 T ∧ m0 = T.length) := Lib.hid ⟨T3.out.1.below hb, T3.out.2.trans (hb.mono T3.out.2.size), hrow, hli, hm0⟩
          have hm1 : m0 ≤ 9223372036854775807 := by unfold maxLen at hTm; omega
          clear hb hrow hli hTc hTm hm0 z0 z1 z2 z3 z4 z5 z6 z7 z8 z9
          go_wp2_with fail
          go_loopg [13, 14] m0 (fun gg s1 s2 wx => ∃ (j : Nat) (tb : Bool), j ≤ m0 ∧ gg = m0 - j ∧ s1 = .bool tb ∧ s2 = .int .i64 j ∧ wx = w3 ∧ Hid ((∃ y ∈ T.take j, y.1.p = op ∧ y.1.s = s) → tb = true))
          case atStart => exact ⟨0, false, by omega, rfl, rfl, rfl, rfl, Lib.hid (by simp)⟩
          case round =>
            obtain ⟨j, tb, hj, hg, rfl, rfl, hw, Q⟩ := hrel
            subst hw
            have G2 := Lib.hid hg
            clear hg
            by_cases hjn : j < m0
            · have hj' : (j : Int) < (m0 : Int) := by omega
              obtain ⟨bb, off, ea, pc⟩ := bd_at S3.out.2.2.1 j (by rw [← S3.out.2.2.2.2]; exact hjn)
              subst ea
              obtain ⟨y, hy⟩ : ∃ y, y = T.getD j Bv.z := ⟨_, rfl⟩
              rw [← hy] at pc
              have TK : Hid (T.take (j + 1) = T.take j ++ [y]) := Lib.hid (by
                have hl : j < T.length := by rw [← S3.out.2.2.2.2]; exact hjn
                rw [List.take_add_one, hy, List.getD_eq_getElem?_getD, List.getElem?_eq_getElem hl]; rfl)
              clear hy
              have p0 : wr.cell? ⟨bb, off + j * 4, none⟩ = some (.string y.1.p) := pc 0 _ rfl
              have p2 : wr.cell? ⟨bb, off + j * 4 + 2, none⟩ = some (.string y.1.s) := pc 2 _ rfl
              obtain ⟨yp, hyp⟩ : ∃ yp, yp = y.1.p := ⟨_, rfl⟩
              obtain ⟨ys, hys⟩ : ∃ ys, ys = y.1.s := ⟨_, rfl⟩
              rw [← hyp] at p0
              rw [← hys] at p2
              have YE := Lib.hid (And.intro hyp hys)
              clear pc hyp hys
              cases tb with
              | true =>
                go_wp2_with fail
                go_roundg (m0 - (j + 1))
                case measure => have := G2.out; omega
                case rel => exact ⟨j + 1, true, by omega, rfl, rfl, by go_num, rfl, Lib.hid (fun _ => rfl)⟩
              | false =>
                by_cases e1 : yp = op
                · have q1 : (yp.toList == op.toList) = true := by rw [e1]; exact teq_yes _
                  by_cases e2 : ys = s
                  · have q2 : (ys.toList == s.toList) = true := by rw [e2]; exact teq_yes _
                    clear e1 e2
                    go_wp2_with fail
                    go_roundg (m0 - (j + 1))
                    case measure => have := G2.out; omega
                    case rel => exact ⟨j + 1, true, by omega, rfl, rfl, by go_num, rfl, Lib.hid (fun _ => rfl)⟩
                  · have q2 := teq_no e2
                    have QN : Hid ((∃ y ∈ T.take (j + 1), y.1.p = op ∧ y.1.s = s) → false = true) := Lib.hid (by
                      rintro ⟨y, hy, h1, h2⟩
                      rw [TK.out, List.mem_append, List.mem_singleton] at hy
                      rcases hy with hy | rfl
                      · exact Q.out ⟨y, hy, h1, h2⟩
                      · exact absurd (YE.out.2.trans h2) e2)
                    clear e1 e2
                    go_wp2_with fail
                    go_roundg (m0 - (j + 1))
                    case measure => have := G2.out; omega
                    case rel => exact ⟨j + 1, false, by omega, rfl, rfl, by go_num, rfl, QN⟩
                · have q1 := teq_no e1
                  have QN : Hid ((∃ y ∈ T.take (j + 1), y.1.p = op ∧ y.1.s = s) → false = true) := Lib.hid (by
                    rintro ⟨y, hy, h1, h2⟩
                    rw [TK.out, List.mem_append, List.mem_singleton] at hy
                    rcases hy with hy | rfl
                    · exact Q.out ⟨y, hy, h1, h2⟩
                    · exact absurd (YE.out.1.trans h1) e1)
                  clear e1
                  go_wp2_with fail
                  go_roundg (m0 - (j + 1))
                  case measure => have := G2.out; omega
                  case rel => exact ⟨j + 1, false, by omega, rfl, rfl, by go_num, rfl, QN⟩
            · have hj' : ¬ (j : Int) < (m0 : Int) := by omega
              have TT : Hid ((∃ x, InD D3 x ∧ x.p = op ∧ x.s = s) → tb = true) := Lib.hid (by
                rintro ⟨x, hx, h1, h2⟩
                obtain ⟨y, hy, rfl⟩ := (S3.out.2.2.2.1.m x).2 hx
                refine Q.out ⟨y, ?_, h1, h2⟩
                rw [List.take_of_length_le (by rw [← S3.out.2.2.2.2]; omega)]
                exact hy)
              clear Q hj'
              obtain ⟨W3, rfl⟩ : ∃ W3, W3 = wr := ⟨_, rfl⟩
              obtain ⟨z0, z1, z2, z3, z4, z5, z6, z7, z8, z9⟩ := CE.out W3 S3.out.2.1
              obtain ⟨gw, hgw⟩ : ∃ g, g = W3.heap.size := ⟨_, rfl⟩
              obtain ⟨Y, hY⟩ : ∃ Y, Y = W3.alloc (.cells #[.bool false, .bool false, .bool false, .bool false] 44) := ⟨_, rfl⟩
              obtain ⟨f, hF⟩ : ∃ f : Nat → Bool, ∀ v : Nat, f v = true ↔ MayP D3 s (v : Int) path := ⟨fun v => @decide (MayP D3 s (v : Int) path) (Classical.propDecidable _), fun v => by simp⟩
              have FH := Lib.hid hF
              clear hF
              have MY : Hid (∀ (W : World) (v : Nat), Ta W t b (i + 1) D3 → Calls Tryd.prog 11 #[.pointer (some ⟨t, 0, none⟩), .string s, .int .i64 (v : Int), .string path] W fun e w' => e = .returned (.bool (f v)) ∧ Below W.heap.size W w') := Lib.hid fun W v h => by
                refine (may_any s v path W t b (i + 1) D3 h).mono ?_
                rintro e w' ⟨r, rfl, h1, h2⟩
                refine ⟨?_, h2⟩
                have e : r = f v := by rw [Bool.eq_iff_iff, h1, FH.out]
                rw [e]
              have AY : Hid (Below W3.heap.size W3 Y ∧ Y.heap[gw]? = some (.cells (wasR f 0) 44 (0, 0)) ∧ gw = W3.heap.size) := Lib.hid ⟨by rw [hY]; exact (Below.refl _ _).alloc (Nat.le_refl _) _, by rw [hY, hgw, heap_alloc_new]; simp [wasR], hgw⟩
              have hY' := hY.symm
              have hgw' := hgw.symm
              clear hY hgw
              cases tb with
              | true =>
                clear TT
                go_wp2_with fail
                clear hY' hgw' z0 z1 z2 z3 z4 z5 z6 z7 z8 z9
                go_loopg [16] 4 (fun gg sv wx => ∃ k : Nat, k ≤ 4 ∧ gg = 4 - k ∧ sv = .int .i64 k ∧ Hid (Below W3.heap.size W3 wx ∧ wx.heap[gw]? = some (.cells (wasR f k) 44 (0, 0))))
                case atStart => exact ⟨0, by omega, rfl, rfl, Lib.hid ⟨AY.out.1, AY.out.2.1⟩⟩
                case round =>
                  obtain ⟨k, hk, hg, rfl, R⟩ := hrel
                  have G4 := Lib.hid hg
                  clear hg
                  by_cases hk4 : k < 4
                  · have hk4' : (k : Int) < 4 := by omega
                    have hk0 : ¬ (k : Int) < 0 := by omega
                    go_wp2_with fail
                    refine (MY.out wr k (S3.out.1.below R.out.1)).mono ?_
                    rintro e w6 ⟨rfl, hb⟩
                    have R6 : Hid (Below W3.heap.size W3 w6 ∧ w6.heap[gw]? = some (.cells (wasR f k) 44 (0, 0))) := Lib.hid ⟨R.out.1.trans (hb.mono R.out.1.size), (hb.block gw (lt_of_some R.out.2)).trans R.out.2⟩
                    have c6 : w6.cell? ⟨gw, k, none⟩ = some (.bool (decide (k < k) && f k)) := by
                      rw [cell_of_row _ _ _ _ _ _ R6.out.2]
                      obtain rfl | rfl | rfl | rfl : k = 0 ∨ k = 1 ∨ k = 2 ∨ k = 3 := by omega
                      all_goals rfl
                    have fz6 : w6.frozen? ⟨gw, k, none⟩ = false := by simp [World.frozen?, R6.out.2]
                    have R7 : Hid (Below W3.heap.size W3 (w6.setCell ⟨gw, k, none⟩ (.bool (f k))) ∧ (w6.setCell ⟨gw, k, none⟩ (.bool (f k))).heap[gw]? = some (.cells (wasR f (k + 1)) 44 (0, 0))) := Lib.hid ⟨R6.out.1.setCell (p := ⟨gw, k, none⟩) (by have := AY.out.2.2; simp only; omega) _, by
                      rw [heap_setCell_same _ _ _ _ _ _ R6.out.2]
                      obtain rfl | rfl | rfl | rfl : k = 0 ∨ k = 1 ∨ k = 2 ∨ k = 3 := by omega
                      all_goals (simp [wasR])⟩
                    clear hb
                    go_wp2_with fail
                    go_roundg (4 - (k + 1))
                    case measure => have := G4.out; omega
                    case rel => exact ⟨k + 1, by omega, rfl, by go_num, R7⟩
                  · have hk4' : ¬ (k : Int) < 4 := by omega
                    have RE : Hid (Below W3.heap.size W3 wr ∧ wr.heap[gw]? = some (.cells (wasR f 4) 44 (0, 0)) ∧ Below X.heap.size X wr) := Lib.hid ⟨R.out.1, by rw [R.out.2, show k = 4 by omega], S3.out.2.1.trans (R.out.1.mono S3.out.2.1.size)⟩
                    obtain ⟨z0, z1, z2, z3, z4, z5, z6, z7, z8, z9⟩ := CE.out wr RE.out.2.2
                    have PL := Lib.hid (play_ex ⟨otwo, okind, overb, ⟨obp, obn, obs, obv⟩, op, oq, ou⟩ wr t b (i + 1) D3 (S3.out.1.below RE.out.1) (by omega) FO.out)
                    unfold Sp.cells at PL
                    simp only at PL
                    clear R
                    go_wp2_with fail
                    refine PL.out.mono ?_
                    rintro e w5 ⟨rfl, D5, hT5, hk5, hs5⟩
                    have CH : Hid (Ch D3 ⟨otwo, okind, overb, ⟨obp, obn, obs, obv⟩, op, oq, ou⟩ D5) := Lib.hid (hs5.ch S3.out.1.tb.m.isMap FO.out V3.out)
                    have S5 : Hid (Ta w5 t b (i + 1 + 1) D5 ∧ Below X.heap.size X w5 ∧ w5.heap[gw]? = some (.cells (wasR f 4) 44 (0, 0))) := Lib.hid (by
                      have hb1 : b < gw := by rw [AY.out.2.2]; exact S3.out.1.tb.m.lt
                      exact ⟨hT5, RE.out.2.2.trans (hk5.below RE.out.2.2.size (fun x e => by rw [e]; exact LB.out)), (hk5.block gw (lt_of_some RE.out.2.1) (by omega)).trans RE.out.2.1⟩)
                    clear hT5 hk5 hs5 PL z0 z1 z2 z3 z4 z5 z6 z7 z8 z9
                    obtain ⟨f5, hF5⟩ : ∃ f : Nat → Bool, ∀ v : Nat, f v = true ↔ MayP D5 s (v : Int) path := ⟨fun v => @decide (MayP D5 s (v : Int) path) (Classical.propDecidable _), fun v => by simp⟩
                    have TOU : Hid (∀ v : Nat, f5 v = f v ∨ (true = true ∧ L.underB path op = true)) := Lib.hid fun v => by
                      have ew : Sp.wh ⟨otwo, okind, overb, ⟨obp, obn, obs, obv⟩, op, oq, ou⟩ = op := by unfold Sp.wh; rw [if_neg NK.out]
                      have q := touch CH.out s path (v : Int)
                      rw [ew] at q
                      rcases q with q | q
                      · refine Or.inl ?_
                        rw [Bool.eq_iff_iff, hF5, FH.out]; exact q
                      · exact Or.inr ⟨rfl, q.2⟩
                    have M5 : Hid (∀ (W : World) (v : Nat), Ta W t b (i + 1 + 1) D5 → Calls Tryd.prog 11 #[.pointer (some ⟨t, 0, none⟩), .string s, .int .i64 (v : Int), .string path] W fun e w' => e = .returned (.bool (f5 v)) ∧ Below W.heap.size W w') := Lib.hid fun W v h => by
                      refine (may_any s v path W t b (i + 1 + 1) D5 h).mono ?_
                      rintro e w' ⟨r, rfl, h1, h2⟩
                      refine ⟨?_, h2⟩
                      have e : r = f5 v := by rw [Bool.eq_iff_iff, h1, hF5]
                      rw [e]
                    have HF5 := Lib.hid hF5
                    clear hF5
                    go_wp2_with fail
                    go_loopg [17] 4 (fun gg sv wx => ∃ k : Nat, k ≤ 4 ∧ gg = 4 - k ∧ sv = .int .i64 k ∧ Hid (Below w5.heap.size w5 wx))
                    case atStart => exact ⟨0, by omega, rfl, rfl, Lib.hid (Below.refl _ _)⟩
                    case round =>
                      clear RE hk4 hk4' G4
                      obtain ⟨j, hj, hg, rfl, R⟩ := hrel
                      have G5 := Lib.hid hg
                      clear hg
                      by_cases hj4 : j < 4
                      · have hj4' : (j : Int) < 4 := by omega
                        have hj0 : ¬ (j : Int) < 0 := by omega
                        have d0 : decide ((j : Int) < 0) = false := decide_eq_false hj0
                        have XR := Lib.hid (S5.out.1.below R.out)
                        have RC : ∀ (dq : Nat) (os : Array Obj), (Go.Sort.grow (redrawn wr dq) os).cell? ⟨gw, j, none⟩ = some (.bool (f j)) := fun dq os => cell_regrown (by
                          rw [cell_of_row _ _ _ _ _ _ ((R.out.block gw (lt_of_some S5.out.2.2)).trans S5.out.2.2)]
                          obtain rfl | rfl | rfl | rfl : j = 0 ∨ j = 1 ∨ j = 2 ∨ j = 3 := by omega
                          all_goals (simp [wasR])) dq os
                        have MQ : Hid (∀ (dq : Nat) (os : Array Obj), Calls Tryd.prog 11 #[.pointer (some ⟨t, 0, none⟩), .string s, .int .i64 (j : Int), .string path] (Go.Sort.grow (redrawn wr dq) os) fun e w'' => e = .returned (.bool (f5 j)) ∧ ∃ p : Regrown, w'' = Go.Sort.grow (redrawn wr p.d) p.os) := Lib.hid (fun dq os => Calls.regrown_of (M5.out _ j (XR.out.below (below_regrown wr dq os))))
                        have UQ : Hid (∀ (dq : Nat) (os : Array Obj), Calls Tryd.prog 17 #[.string path, .string op] (Go.Sort.grow (redrawn wr dq) os) fun e w'' => e = .returned (.bool (L.underB path op)) ∧ ∃ p : Regrown, w'' = Go.Sort.grow (redrawn wr p.d) p.os) := Lib.hid (fun dq os => Calls.regrown_of (L.under_any path op _ (XR.out.hm.below (below_regrown wr dq os))))
                        by_cases ej : f5 j = f j
                        · have ne : (f5 j != f j) = false := by rw [ej]; exact bne_self_eq_false _
                          have ne2 : (f5 j == f j) = true := by rw [ej]; exact beq_self_eq_true _
                          clear TOU ej
                          go_wp2_with fail
                          refine wp_region_quiet_below (by kernel_rfl) (by kernel_rfl) ?_
                          repeat (go_big_quiet_step (first | with_reducible exact MQ.out _ _ | with_reducible exact UQ.out _ _))
                          refine wpQuiet_nil ?_
                          intro _ hw'
                          obtain ⟨⟨dq, osq⟩, hw''⟩ := hw'
                          subst hw''
                          go_wp2_with fail
                          go_roundg (4 - (j + 1))
                          case measure => have := G5.out; omega
                          case rel => exact ⟨j + 1, by omega, rfl, by go_num, Lib.hid (R.out.trans ((below_regrown wr dq osq).mono R.out.size))⟩
                        · have eu := ((TOU.out j).resolve_left ej).2
                          have ne : (f5 j != f j) = true := by rw [bne_iff_ne]; exact ej
                          have ne2 : (f5 j == f j) = false := by rw [beq_eq_false_iff_ne]; exact ej
                          rw [eu] at UQ
                          clear TOU ej eu
                          go_wp2_with fail
                          refine wp_region_quiet_below (by kernel_rfl) (by kernel_rfl) ?_
                          repeat (go_big_quiet_step (first | with_reducible exact MQ.out _ _ | with_reducible exact UQ.out _ _))
                          refine wpQuiet_nil ?_
                          intro _ hw'
                          obtain ⟨⟨dq, osq⟩, hw''⟩ := hw'
                          subst hw''
                          go_wp2_with fail
                          go_roundg (4 - (j + 1))
                          case measure => have := G5.out; omega
                          case rel => exact ⟨j + 1, by omega, rfl, by go_num, Lib.hid (R.out.trans ((below_regrown wr dq osq).mono R.out.size))⟩
                      · have hj4' : ¬ (j : Int) < 4 := by omega
                        go_wp2_with fail
                        go_ret
                        exact ⟨rfl, AX.out.1.trans ((S5.out.2.1.trans (R.out.mono S5.out.2.1.size)).mono AX.out.1.size)⟩
              | false =>
                have TF : Hid ((∃ x, InD D3 x ∧ x.p = op ∧ x.s = s) → false = true) := Lib.hid TT.out
                clear TT
                go_wp2_with fail
                clear hY' hgw' z0 z1 z2 z3 z4 z5 z6 z7 z8 z9
                go_loopg [16] 4 (fun gg sv wx => ∃ k : Nat, k ≤ 4 ∧ gg = 4 - k ∧ sv = .int .i64 k ∧ Hid (Below W3.heap.size W3 wx ∧ wx.heap[gw]? = some (.cells (wasR f k) 44 (0, 0))))
                case atStart => exact ⟨0, by omega, rfl, rfl, Lib.hid ⟨AY.out.1, AY.out.2.1⟩⟩
                case round =>
                  obtain ⟨k, hk, hg, rfl, R⟩ := hrel
                  have G4 := Lib.hid hg
                  clear hg
                  by_cases hk4 : k < 4
                  · have hk4' : (k : Int) < 4 := by omega
                    have hk0 : ¬ (k : Int) < 0 := by omega
                    go_wp2_with fail
                    refine (MY.out wr k (S3.out.1.below R.out.1)).mono ?_
                    rintro e w6 ⟨rfl, hb⟩
                    have R6 : Hid (Below W3.heap.size W3 w6 ∧ w6.heap[gw]? = some (.cells (wasR f k) 44 (0, 0))) := Lib.hid ⟨R.out.1.trans (hb.mono R.out.1.size), (hb.block gw (lt_of_some R.out.2)).trans R.out.2⟩
                    have c6 : w6.cell? ⟨gw, k, none⟩ = some (.bool (decide (k < k) && f k)) := by
                      rw [cell_of_row _ _ _ _ _ _ R6.out.2]
                      obtain rfl | rfl | rfl | rfl : k = 0 ∨ k = 1 ∨ k = 2 ∨ k = 3 := by omega
                      all_goals rfl
                    have fz6 : w6.frozen? ⟨gw, k, none⟩ = false := by simp [World.frozen?, R6.out.2]
                    have R7 : Hid (Below W3.heap.size W3 (w6.setCell ⟨gw, k, none⟩ (.bool (f k))) ∧ (w6.setCell ⟨gw, k, none⟩ (.bool (f k))).heap[gw]? = some (.cells (wasR f (k + 1)) 44 (0, 0))) := Lib.hid ⟨R6.out.1.setCell (p := ⟨gw, k, none⟩) (by have := AY.out.2.2; simp only; omega) _, by
                      rw [heap_setCell_same _ _ _ _ _ _ R6.out.2]
                      obtain rfl | rfl | rfl | rfl : k = 0 ∨ k = 1 ∨ k = 2 ∨ k = 3 := by omega
                      all_goals (simp [wasR])⟩
                    clear hb
                    go_wp2_with fail
                    go_roundg (4 - (k + 1))
                    case measure => have := G4.out; omega
                    case rel => exact ⟨k + 1, by omega, rfl, by go_num, R7⟩
                  · have hk4' : ¬ (k : Int) < 4 := by omega
                    have RE : Hid (Below W3.heap.size W3 wr ∧ wr.heap[gw]? = some (.cells (wasR f 4) 44 (0, 0)) ∧ Below X.heap.size X wr) := Lib.hid ⟨R.out.1, by rw [R.out.2, show k = 4 by omega], S3.out.2.1.trans (R.out.1.mono S3.out.2.1.size)⟩
                    obtain ⟨z0, z1, z2, z3, z4, z5, z6, z7, z8, z9⟩ := CE.out wr RE.out.2.2
                    have PL := Lib.hid (play_ex ⟨otwo, okind, overb, ⟨obp, obn, obs, obv⟩, op, oq, ou⟩ wr t b (i + 1) D3 (S3.out.1.below RE.out.1) (by omega) FO.out)
                    unfold Sp.cells at PL
                    simp only at PL
                    clear R
                    go_wp2_with fail
                    refine PL.out.mono ?_
                    rintro e w5 ⟨rfl, D5, hT5, hk5, hs5⟩
                    have CH : Hid (Ch D3 ⟨otwo, okind, overb, ⟨obp, obn, obs, obv⟩, op, oq, ou⟩ D5) := Lib.hid (hs5.ch S3.out.1.tb.m.isMap FO.out V3.out)
                    have S5 : Hid (Ta w5 t b (i + 1 + 1) D5 ∧ Below X.heap.size X w5 ∧ w5.heap[gw]? = some (.cells (wasR f 4) 44 (0, 0))) := Lib.hid (by
                      have hb1 : b < gw := by rw [AY.out.2.2]; exact S3.out.1.tb.m.lt
                      exact ⟨hT5, RE.out.2.2.trans (hk5.below RE.out.2.2.size (fun x e => by rw [e]; exact LB.out)), (hk5.block gw (lt_of_some RE.out.2.1) (by omega)).trans RE.out.2.1⟩)
                    clear hT5 hk5 hs5 PL z0 z1 z2 z3 z4 z5 z6 z7 z8 z9
                    obtain ⟨f5, hF5⟩ : ∃ f : Nat → Bool, ∀ v : Nat, f v = true ↔ MayP D5 s (v : Int) path := ⟨fun v => @decide (MayP D5 s (v : Int) path) (Classical.propDecidable _), fun v => by simp⟩
                    have TOU : Hid (∀ v : Nat, f5 v = f v ∨ (false = true ∧ L.underB path op = true)) := Lib.hid fun v => by
                      have ew : Sp.wh ⟨otwo, okind, overb, ⟨obp, obn, obs, obv⟩, op, oq, ou⟩ = op := by unfold Sp.wh; rw [if_neg NK.out]
                      have q := touch CH.out s path (v : Int)
                      rw [ew] at q
                      rcases q with q | q
                      · refine Or.inl ?_
                        rw [Bool.eq_iff_iff, hF5, FH.out]; exact q
                      · exact Or.inr ⟨TF.out (q.1.elim id (fun q => absurd q.1 NK.out)), q.2⟩
                    have M5 : Hid (∀ (W : World) (v : Nat), Ta W t b (i + 1 + 1) D5 → Calls Tryd.prog 11 #[.pointer (some ⟨t, 0, none⟩), .string s, .int .i64 (v : Int), .string path] W fun e w' => e = .returned (.bool (f5 v)) ∧ Below W.heap.size W w') := Lib.hid fun W v h => by
                      refine (may_any s v path W t b (i + 1 + 1) D5 h).mono ?_
                      rintro e w' ⟨r, rfl, h1, h2⟩
                      refine ⟨?_, h2⟩
                      have e : r = f5 v := by rw [Bool.eq_iff_iff, h1, hF5]
                      rw [e]
                    have HF5 := Lib.hid hF5
                    clear hF5
                    go_wp2_with fail
                    go_loopg [17] 4 (fun gg sv wx => ∃ k : Nat, k ≤ 4 ∧ gg = 4 - k ∧ sv = .int .i64 k ∧ Hid (Below w5.heap.size w5 wx))
                    case atStart => exact ⟨0, by omega, rfl, rfl, Lib.hid (Below.refl _ _)⟩
                    case round =>
                      clear RE hk4 hk4' G4
                      obtain ⟨j, hj, hg, rfl, R⟩ := hrel
                      have G5 := Lib.hid hg
                      clear hg
                      by_cases hj4 : j < 4
                      · have hj4' : (j : Int) < 4 := by omega
                        have hj0 : ¬ (j : Int) < 0 := by omega
                        have d0 : decide ((j : Int) < 0) = false := decide_eq_false hj0
                        have XR := Lib.hid (S5.out.1.below R.out)
                        have RC : ∀ (dq : Nat) (os : Array Obj), (Go.Sort.grow (redrawn wr dq) os).cell? ⟨gw, j, none⟩ = some (.bool (f j)) := fun dq os => cell_regrown (by
                          rw [cell_of_row _ _ _ _ _ _ ((R.out.block gw (lt_of_some S5.out.2.2)).trans S5.out.2.2)]
                          obtain rfl | rfl | rfl | rfl : j = 0 ∨ j = 1 ∨ j = 2 ∨ j = 3 := by omega
                          all_goals (simp [wasR])) dq os
                        have MQ : Hid (∀ (dq : Nat) (os : Array Obj), Calls Tryd.prog 11 #[.pointer (some ⟨t, 0, none⟩), .string s, .int .i64 (j : Int), .string path] (Go.Sort.grow (redrawn wr dq) os) fun e w'' => e = .returned (.bool (f5 j)) ∧ ∃ p : Regrown, w'' = Go.Sort.grow (redrawn wr p.d) p.os) := Lib.hid (fun dq os => Calls.regrown_of (M5.out _ j (XR.out.below (below_regrown wr dq os))))
                        have UQ : Hid (∀ (dq : Nat) (os : Array Obj), Calls Tryd.prog 17 #[.string path, .string op] (Go.Sort.grow (redrawn wr dq) os) fun e w'' => e = .returned (.bool (L.underB path op)) ∧ ∃ p : Regrown, w'' = Go.Sort.grow (redrawn wr p.d) p.os) := Lib.hid (fun dq os => Calls.regrown_of (L.under_any path op _ (XR.out.hm.below (below_regrown wr dq os))))
                        by_cases ej : f5 j = f j
                        · have ne : (f5 j != f j) = false := by rw [ej]; exact bne_self_eq_false _
                          have ne2 : (f5 j == f j) = true := by rw [ej]; exact beq_self_eq_true _
                          clear TOU ej
                          go_wp2_with fail
                          refine wp_region_quiet_below (by kernel_rfl) (by kernel_rfl) ?_
                          repeat (go_big_quiet_step (first | with_reducible exact MQ.out _ _ | with_reducible exact UQ.out _ _))
                          refine wpQuiet_nil ?_
                          intro _ hw'
                          obtain ⟨⟨dq, osq⟩, hw''⟩ := hw'
                          subst hw''
                          go_wp2_with fail
                          go_roundg (4 - (j + 1))
                          case measure => have := G5.out; omega
                          case rel => exact ⟨j + 1, by omega, rfl, by go_num, Lib.hid (R.out.trans ((below_regrown wr dq osq).mono R.out.size))⟩
                        · exact absurd ((TOU.out j).resolve_left ej).1 (by decide)
                      · have hj4' : ¬ (j : Int) < 4 := by omega
                        go_wp2_with fail
                        go_ret
                        exact ⟨rfl, AX.out.1.trans ((S5.out.2.1.trans (R.out.mono S5.out.2.1.size)).mono AX.out.1.size)⟩
      · have h1' : ¬ (i : Int) < (n0 : Int) := by omega
        clear hlt
        by_cases hk1 : okind = 1
        · subst hk1
          obtain ⟨z0, z1, z2, z3, z4, z5, z6, z7, z8, z9⟩ := CE.out wr T3.out.2
          go_wp2_with fail
          refine (list_any wr t b (i + 1) D3 T3.out.1 (by omega) V3.out).mono ?_
          rintro e w3 ⟨v3, T, rfl, hrow, hli, hb⟩
          obtain ⟨a, c, rfl, hTc, hTm⟩ := hrow.len
          obtain ⟨m0, hm0⟩ : ∃ m, m = T.length := ⟨_, rfl⟩
          rw [← hm0] at hrow ⊢
          have S3 : Hid (Ta w3 t b (i + 1) D3 ∧ Below X.heap.size X w3 ∧ Row kBv w3 (.slice a m0 c) T ∧ Li D3 T ∧ m0 = T.length) := Lib.hid ⟨T3.out.1.below hb, T3.out.2.trans (hb.mono T3.out.2.size), hrow, hli, hm0⟩
          have hm1 : m0 ≤ 9223372036854775807 := by unfold maxLen at hTm; omega
          clear hb hrow hli hTc hTm hm0 z0 z1 z2 z3 z4 z5 z6 z7 z8 z9
          go_wp2_with fail
          go_loopg [13, 14] m0 (fun gg s1 s2 wx => ∃ (j : Nat) (tb : Bool), j ≤ m0 ∧ gg = m0 - j ∧ s1 = .bool tb ∧ s2 = .int .i64 j ∧ wx = w3 ∧ Hid ((∃ y ∈ T.take j, y.1.p = obp ∧ y.1.s = s) → tb = true))
          case atStart => exact ⟨0, false, by omega, rfl, rfl, rfl, rfl, Lib.hid (by simp)⟩
          case round =>
            obtain ⟨j, tb, hj, hg, rfl, rfl, hw, Q⟩ := hrel
            subst hw
            have G2 := Lib.hid hg
            clear hg
            by_cases hjn : j < m0
            · have hj' : (j : Int) < (m0 : Int) := by omega
              obtain ⟨bb, off, ea, pc⟩ := bd_at S3.out.2.2.1 j (by rw [← S3.out.2.2.2.2]; exact hjn)
              subst ea
              obtain ⟨y, hy⟩ : ∃ y, y = T.getD j Bv.z := ⟨_, rfl⟩
              rw [← hy] at pc
              have TK : Hid (T.take (j + 1) = T.take j ++ [y]) := Lib.hid (by
                have hl : j < T.length := by rw [← S3.out.2.2.2.2]; exact hjn
                rw [List.take_add_one, hy, List.getD_eq_getElem?_getD, List.getElem?_eq_getElem hl]; rfl)
              clear hy
              have p0 : wr.cell? ⟨bb, off + j * 4, none⟩ = some (.string y.1.p) := pc 0 _ rfl
              have p2 : wr.cell? ⟨bb, off + j * 4 + 2, none⟩ = some (.string y.1.s) := pc 2 _ rfl
              obtain ⟨yp, hyp⟩ : ∃ yp, yp = y.1.p := ⟨_, rfl⟩
              obtain ⟨ys, hys⟩ : ∃ ys, ys = y.1.s := ⟨_, rfl⟩
              rw [← hyp] at p0
              rw [← hys] at p2
              have YE := Lib.hid (And.intro hyp hys)
              clear pc hyp hys
              cases tb with
              | true =>
                go_wp2_with fail
                go_roundg (m0 - (j + 1))
                case measure => have := G2.out; omega
                case rel => exact ⟨j + 1, true, by omega, rfl, rfl, by go_num, rfl, Lib.hid (fun _ => rfl)⟩
              | false =>
                by_cases e1 : yp = obp
                · have q1 : (yp.toList == obp.toList) = true := by rw [e1]; exact teq_yes _
                  by_cases e2 : ys = s
                  · have q2 : (ys.toList == s.toList) = true := by rw [e2]; exact teq_yes _
                    clear e1 e2
                    go_wp2_with fail
                    go_roundg (m0 - (j + 1))
                    case measure => have := G2.out; omega
                    case rel => exact ⟨j + 1, true, by omega, rfl, rfl, by go_num, rfl, Lib.hid (fun _ => rfl)⟩
                  · have q2 := teq_no e2
                    have QN : Hid ((∃ y ∈ T.take (j + 1), y.1.p = obp ∧ y.1.s = s) → false = true) := Lib.hid (by
                      rintro ⟨y, hy, h1, h2⟩
                      rw [TK.out, List.mem_append, List.mem_singleton] at hy
                      rcases hy with hy | rfl
                      · exact Q.out ⟨y, hy, h1, h2⟩
                      · exact absurd (YE.out.2.trans h2) e2)
                    clear e1 e2
                    go_wp2_with fail
                    go_roundg (m0 - (j + 1))
                    case measure => have := G2.out; omega
                    case rel => exact ⟨j + 1, false, by omega, rfl, rfl, by go_num, rfl, QN⟩
                · have q1 := teq_no e1
                  have QN : Hid ((∃ y ∈ T.take (j + 1), y.1.p = obp ∧ y.1.s = s) → false = true) := Lib.hid (by
                    rintro ⟨y, hy, h1, h2⟩
                    rw [TK.out, List.mem_append, List.mem_singleton] at hy
                    rcases hy with hy | rfl
                    · exact Q.out ⟨y, hy, h1, h2⟩
                    · exact absurd (YE.out.1.trans h1) e1)
                  clear e1
                  go_wp2_with fail
                  go_roundg (m0 - (j + 1))
                  case measure => have := G2.out; omega
                  case rel => exact ⟨j + 1, false, by omega, rfl, rfl, by go_num, rfl, QN⟩
            · have hj' : ¬ (j : Int) < (m0 : Int) := by omega
              have TT : Hid ((∃ x, InD D3 x ∧ x.p = obp ∧ x.s = s) → tb = true) := Lib.hid (by
                rintro ⟨x, hx, h1, h2⟩
                obtain ⟨y, hy, rfl⟩ := (S3.out.2.2.2.1.m x).2 hx
                refine Q.out ⟨y, ?_, h1, h2⟩
                rw [List.take_of_length_le (by rw [← S3.out.2.2.2.2]; omega)]
                exact hy)
              clear Q hj'
              obtain ⟨W3, rfl⟩ : ∃ W3, W3 = wr := ⟨_, rfl⟩
              obtain ⟨z0, z1, z2, z3, z4, z5, z6, z7, z8, z9⟩ := CE.out W3 S3.out.2.1
              obtain ⟨gw, hgw⟩ : ∃ g, g = W3.heap.size := ⟨_, rfl⟩
              obtain ⟨Y, hY⟩ : ∃ Y, Y = W3.alloc (.cells #[.bool false, .bool false, .bool false, .bool false] 44) := ⟨_, rfl⟩
              obtain ⟨f, hF⟩ : ∃ f : Nat → Bool, ∀ v : Nat, f v = true ↔ MayP D3 s (v : Int) path := ⟨fun v => @decide (MayP D3 s (v : Int) path) (Classical.propDecidable _), fun v => by simp⟩
              have FH := Lib.hid hF
              clear hF
              have MY : Hid (∀ (W : World) (v : Nat), Ta W t b (i + 1) D3 → Calls Tryd.prog 11 #[.pointer (some ⟨t, 0, none⟩), .string s, .int .i64 (v : Int), .string path] W fun e w' => e = .returned (.bool (f v)) ∧ Below W.heap.size W w') := Lib.hid fun W v h => by
                refine (may_any s v path W t b (i + 1) D3 h).mono ?_
                rintro e w' ⟨r, rfl, h1, h2⟩
                refine ⟨?_, h2⟩
                have e : r = f v := by rw [Bool.eq_iff_iff, h1, FH.out]
                rw [e]
              have AY : Hid (Below W3.heap.size W3 Y ∧ Y.heap[gw]? = some (.cells (wasR f 0) 44 (0, 0)) ∧ gw = W3.heap.size) := Lib.hid ⟨by rw [hY]; exact (Below.refl _ _).alloc (Nat.le_refl _) _, by rw [hY, hgw, heap_alloc_new]; simp [wasR], hgw⟩
              have hY' := hY.symm
              have hgw' := hgw.symm
              clear hY hgw
              cases tb with
              | true =>
                clear TT
                go_wp2_with fail
                clear hY' hgw' z0 z1 z2 z3 z4 z5 z6 z7 z8 z9
                go_loopg [16] 4 (fun gg sv wx => ∃ k : Nat, k ≤ 4 ∧ gg = 4 - k ∧ sv = .int .i64 k ∧ Hid (Below W3.heap.size W3 wx ∧ wx.heap[gw]? = some (.cells (wasR f k) 44 (0, 0))))
                case atStart => exact ⟨0, by omega, rfl, rfl, Lib.hid ⟨AY.out.1, AY.out.2.1⟩⟩
                case round =>
                  obtain ⟨k, hk, hg, rfl, R⟩ := hrel
                  have G4 := Lib.hid hg
                  clear hg
                  by_cases hk4 : k < 4
                  · have hk4' : (k : Int) < 4 := by omega
                    have hk0 : ¬ (k : Int) < 0 := by omega
                    go_wp2_with fail
                    refine (MY.out wr k (S3.out.1.below R.out.1)).mono ?_
                    rintro e w6 ⟨rfl, hb⟩
                    have R6 : Hid (Below W3.heap.size W3 w6 ∧ w6.heap[gw]? = some (.cells (wasR f k) 44 (0, 0))) := Lib.hid ⟨R.out.1.trans (hb.mono R.out.1.size), (hb.block gw (lt_of_some R.out.2)).trans R.out.2⟩
                    have c6 : w6.cell? ⟨gw, k, none⟩ = some (.bool (decide (k < k) && f k)) := by
                      rw [cell_of_row _ _ _ _ _ _ R6.out.2]
                      obtain rfl | rfl | rfl | rfl : k = 0 ∨ k = 1 ∨ k = 2 ∨ k = 3 := by omega
                      all_goals rfl
                    have fz6 : w6.frozen? ⟨gw, k, none⟩ = false := by simp [World.frozen?, R6.out.2]
                    have R7 : Hid (Below W3.heap.size W3 (w6.setCell ⟨gw, k, none⟩ (.bool (f k))) ∧ (w6.setCell ⟨gw, k, none⟩ (.bool (f k))).heap[gw]? = some (.cells (wasR f (k + 1)) 44 (0, 0))) := Lib.hid ⟨R6.out.1.setCell (p := ⟨gw, k, none⟩) (by have := AY.out.2.2; simp only; omega) _, by
                      rw [heap_setCell_same _ _ _ _ _ _ R6.out.2]
                      obtain rfl | rfl | rfl | rfl : k = 0 ∨ k = 1 ∨ k = 2 ∨ k = 3 := by omega
                      all_goals (simp [wasR])⟩
                    clear hb
                    go_wp2_with fail
                    go_roundg (4 - (k + 1))
                    case measure => have := G4.out; omega
                    case rel => exact ⟨k + 1, by omega, rfl, by go_num, R7⟩
                  · have hk4' : ¬ (k : Int) < 4 := by omega
                    have RE : Hid (Below W3.heap.size W3 wr ∧ wr.heap[gw]? = some (.cells (wasR f 4) 44 (0, 0)) ∧ Below X.heap.size X wr) := Lib.hid ⟨R.out.1, by rw [R.out.2, show k = 4 by omega], S3.out.2.1.trans (R.out.1.mono S3.out.2.1.size)⟩
                    obtain ⟨z0, z1, z2, z3, z4, z5, z6, z7, z8, z9⟩ := CE.out wr RE.out.2.2
                    have PL := Lib.hid (play_ex ⟨otwo, 1, overb, ⟨obp, obn, obs, obv⟩, op, oq, ou⟩ wr t b (i + 1) D3 (S3.out.1.below RE.out.1) (by omega) FO.out)
                    unfold Sp.cells at PL
                    simp only at PL
                    clear R
                    go_wp2_with fail
                    refine PL.out.mono ?_
                    rintro e w5 ⟨rfl, D5, hT5, hk5, hs5⟩
                    have CH : Hid (Ch D3 ⟨otwo, 1, overb, ⟨obp, obn, obs, obv⟩, op, oq, ou⟩ D5) := Lib.hid (hs5.ch S3.out.1.tb.m.isMap FO.out V3.out)
                    have S5 : Hid (Ta w5 t b (i + 1 + 1) D5 ∧ Below X.heap.size X w5 ∧ w5.heap[gw]? = some (.cells (wasR f 4) 44 (0, 0))) := Lib.hid (by
                      have hb1 : b < gw := by rw [AY.out.2.2]; exact S3.out.1.tb.m.lt
                      exact ⟨hT5, RE.out.2.2.trans (hk5.below RE.out.2.2.size (fun x e => by rw [e]; exact LB.out)), (hk5.block gw (lt_of_some RE.out.2.1) (by omega)).trans RE.out.2.1⟩)
                    clear hT5 hk5 hs5 PL z0 z1 z2 z3 z4 z5 z6 z7 z8 z9
                    obtain ⟨f5, hF5⟩ : ∃ f : Nat → Bool, ∀ v : Nat, f v = true ↔ MayP D5 s (v : Int) path := ⟨fun v => @decide (MayP D5 s (v : Int) path) (Classical.propDecidable _), fun v => by simp⟩
                    have TOU : Hid (∀ v : Nat, f5 v = f v ∨ (true = true ∧ L.underB path obp = true)) := Lib.hid fun v => by
                      have ew : Sp.wh ⟨otwo, 1, overb, ⟨obp, obn, obs, obv⟩, op, oq, ou⟩ = obp := by unfold Sp.wh; rw [if_pos rfl]
                      have q := touch CH.out s path (v : Int)
                      rw [ew] at q
                      rcases q with q | q
                      · refine Or.inl ?_
                        rw [Bool.eq_iff_iff, hF5, FH.out]; exact q
                      · exact Or.inr ⟨rfl, q.2⟩
                    have M5 : Hid (∀ (W : World) (v : Nat), Ta W t b (i + 1 + 1) D5 → Calls Tryd.prog 11 #[.pointer (some ⟨t, 0, none⟩), .string s, .int .i64 (v : Int), .string path] W fun e w' => e = .returned (.bool (f5 v)) ∧ Below W.heap.size W w') := Lib.hid fun W v h => by
                      refine (may_any s v path W t b (i + 1 + 1) D5 h).mono ?_
                      rintro e w' ⟨r, rfl, h1, h2⟩
                      refine ⟨?_, h2⟩
                      have e : r = f5 v := by rw [Bool.eq_iff_iff, h1, hF5]
                      rw [e]
                    have HF5 := Lib.hid hF5
                    clear hF5
                    go_wp2_with fail
                    go_loopg [17] 4 (fun gg sv wx => ∃ k : Nat, k ≤ 4 ∧ gg = 4 - k ∧ sv = .int .i64 k ∧ Hid (Below w5.heap.size w5 wx))
                    case atStart => exact ⟨0, by omega, rfl, rfl, Lib.hid (Below.refl _ _)⟩
                    case round =>
                      clear RE hk4 hk4' G4
                      obtain ⟨j, hj, hg, rfl, R⟩ := hrel
                      have G5 := Lib.hid hg
                      clear hg
                      by_cases hj4 : j < 4
                      · have hj4' : (j : Int) < 4 := by omega
                        have hj0 : ¬ (j : Int) < 0 := by omega
                        have d0 : decide ((j : Int) < 0) = false := decide_eq_false hj0
                        have XR := Lib.hid (S5.out.1.below R.out)
                        have RC : ∀ (dq : Nat) (os : Array Obj), (Go.Sort.grow (redrawn wr dq) os).cell? ⟨gw, j, none⟩ = some (.bool (f j)) := fun dq os => cell_regrown (by
                          rw [cell_of_row _ _ _ _ _ _ ((R.out.block gw (lt_of_some S5.out.2.2)).trans S5.out.2.2)]
                          obtain rfl | rfl | rfl | rfl : j = 0 ∨ j = 1 ∨ j = 2 ∨ j = 3 := by omega
                          all_goals (simp [wasR])) dq os
                        have MQ : Hid (∀ (dq : Nat) (os : Array Obj), Calls Tryd.prog 11 #[.pointer (some ⟨t, 0, none⟩), .string s, .int .i64 (j : Int), .string path] (Go.Sort.grow (redrawn wr dq) os) fun e w'' => e = .returned (.bool (f5 j)) ∧ ∃ p : Regrown, w'' = Go.Sort.grow (redrawn wr p.d) p.os) := Lib.hid (fun dq os => Calls.regrown_of (M5.out _ j (XR.out.below (below_regrown wr dq os))))
                        have UQ : Hid (∀ (dq : Nat) (os : Array Obj), Calls Tryd.prog 17 #[.string path, .string obp] (Go.Sort.grow (redrawn wr dq) os) fun e w'' => e = .returned (.bool (L.underB path obp)) ∧ ∃ p : Regrown, w'' = Go.Sort.grow (redrawn wr p.d) p.os) := Lib.hid (fun dq os => Calls.regrown_of (L.under_any path obp _ (XR.out.hm.below (below_regrown wr dq os))))
                        by_cases ej : f5 j = f j
                        · have ne : (f5 j != f j) = false := by rw [ej]; exact bne_self_eq_false _
                          have ne2 : (f5 j == f j) = true := by rw [ej]; exact beq_self_eq_true _
                          clear TOU ej
                          go_wp2_with fail
                          refine wp_region_quiet_below (by kernel_rfl) (by kernel_rfl) ?_
                          repeat (go_big_quiet_step (first | with_reducible exact MQ.out _ _ | with_reducible exact UQ.out _ _))
                          refine wpQuiet_nil ?_
                          intro _ hw'
                          obtain ⟨⟨dq, osq⟩, hw''⟩ := hw'
                          subst hw''
                          go_wp2_with fail
                          go_roundg (4 - (j + 1))
                          case measure => have := G5.out; omega
                          case rel => exact ⟨j + 1, by omega, rfl, by go_num, Lib.hid (R.out.trans ((below_regrown wr dq osq).mono R.out.size))⟩
                        · have eu := ((TOU.out j).resolve_left ej).2
                          have ne : (f5 j != f j) = true := by rw [bne_iff_ne]; exact ej
                          have ne2 : (f5 j == f j) = false := by rw [beq_eq_false_iff_ne]; exact ej
                          rw [eu] at UQ
                          clear TOU ej eu
                          go_wp2_with fail
                          refine wp_region_quiet_below (by kernel_rfl) (by kernel_rfl) ?_
                          repeat (go_big_quiet_step (first | with_reducible exact MQ.out _ _ | with_reducible exact UQ.out _ _))
                          refine wpQuiet_nil ?_
                          intro _ hw'
                          obtain ⟨⟨dq, osq⟩, hw''⟩ := hw'
                          subst hw''
                          go_wp2_with fail
                          go_roundg (4 - (j + 1))
                          case measure => have := G5.out; omega
                          case rel => exact ⟨j + 1, by omega, rfl, by go_num, Lib.hid (R.out.trans ((below_regrown wr dq osq).mono R.out.size))⟩
                      · have hj4' : ¬ (j : Int) < 4 := by omega
                        go_wp2_with fail
                        go_ret
                        exact ⟨rfl, AX.out.1.trans ((S5.out.2.1.trans (R.out.mono S5.out.2.1.size)).mono AX.out.1.size)⟩
              | false =>
                by_cases e3 : obs = s
                · have q3 : (obs.toList == s.toList) = true := by rw [e3]; exact teq_yes _
                  clear TT e3
                  go_wp2_with fail
                  clear hY' hgw' z0 z1 z2 z3 z4 z5 z6 z7 z8 z9
                  go_loopg [16] 4 (fun gg sv wx => ∃ k : Nat, k ≤ 4 ∧ gg = 4 - k ∧ sv = .int .i64 k ∧ Hid (Below W3.heap.size W3 wx ∧ wx.heap[gw]? = some (.cells (wasR f k) 44 (0, 0))))
                  case atStart => exact ⟨0, by omega, rfl, rfl, Lib.hid ⟨AY.out.1, AY.out.2.1⟩⟩
                  case round =>
                    obtain ⟨k, hk, hg, rfl, R⟩ := hrel
                    have G4 := Lib.hid hg
                    clear hg
                    by_cases hk4 : k < 4
                    · have hk4' : (k : Int) < 4 := by omega
                      have hk0 : ¬ (k : Int) < 0 := by omega
                      go_wp2_with fail
                      refine (MY.out wr k (S3.out.1.below R.out.1)).mono ?_
                      rintro e w6 ⟨rfl, hb⟩
                      have R6 : Hid (Below W3.heap.size W3 w6 ∧ w6.heap[gw]? = some (.cells (wasR f k) 44 (0, 0))) := Lib.hid ⟨R.out.1.trans (hb.mono R.out.1.size), (hb.block gw (lt_of_some R.out.2)).trans R.out.2⟩
                      have c6 : w6.cell? ⟨gw, k, none⟩ = some (.bool (decide (k < k) && f k)) := by
                        rw [cell_of_row _ _ _ _ _ _ R6.out.2]
                        obtain rfl | rfl | rfl | rfl : k = 0 ∨ k = 1 ∨ k = 2 ∨ k = 3 := by omega
                        all_goals rfl
                      have fz6 : w6.frozen? ⟨gw, k, none⟩ = false := by simp [World.frozen?, R6.out.2]
                      have R7 : Hid (Below W3.heap.size W3 (w6.setCell ⟨gw, k, none⟩ (.bool (f k))) ∧ (w6.setCell ⟨gw, k, none⟩ (.bool (f k))).heap[gw]? = some (.cells (wasR f (k + 1)) 44 (0, 0))) := Lib.hid ⟨R6.out.1.setCell (p := ⟨gw, k, none⟩) (by have := AY.out.2.2; simp only; omega) _, by
                        rw [heap_setCell_same _ _ _ _ _ _ R6.out.2]
                        obtain rfl | rfl | rfl | rfl : k = 0 ∨ k = 1 ∨ k = 2 ∨ k = 3 := by omega
                        all_goals (simp [wasR])⟩
                      clear hb
                      go_wp2_with fail
                      go_roundg (4 - (k + 1))
                      case measure => have := G4.out; omega
                      case rel => exact ⟨k + 1, by omega, rfl, by go_num, R7⟩
                    · have hk4' : ¬ (k : Int) < 4 := by omega
                      have RE : Hid (Below W3.heap.size W3 wr ∧ wr.heap[gw]? = some (.cells (wasR f 4) 44 (0, 0)) ∧ Below X.heap.size X wr) := Lib.hid ⟨R.out.1, by rw [R.out.2, show k = 4 by omega], S3.out.2.1.trans (R.out.1.mono S3.out.2.1.size)⟩
                      obtain ⟨z0, z1, z2, z3, z4, z5, z6, z7, z8, z9⟩ := CE.out wr RE.out.2.2
                      have PL := Lib.hid (play_ex ⟨otwo, 1, overb, ⟨obp, obn, obs, obv⟩, op, oq, ou⟩ wr t b (i + 1) D3 (S3.out.1.below RE.out.1) (by omega) FO.out)
                      unfold Sp.cells at PL
                      simp only at PL
                      clear R
                      go_wp2_with fail
                      refine PL.out.mono ?_
                      rintro e w5 ⟨rfl, D5, hT5, hk5, hs5⟩
                      have CH : Hid (Ch D3 ⟨otwo, 1, overb, ⟨obp, obn, obs, obv⟩, op, oq, ou⟩ D5) := Lib.hid (hs5.ch S3.out.1.tb.m.isMap FO.out V3.out)
                      have S5 : Hid (Ta w5 t b (i + 1 + 1) D5 ∧ Below X.heap.size X w5 ∧ w5.heap[gw]? = some (.cells (wasR f 4) 44 (0, 0))) := Lib.hid (by
                        have hb1 : b < gw := by rw [AY.out.2.2]; exact S3.out.1.tb.m.lt
                        exact ⟨hT5, RE.out.2.2.trans (hk5.below RE.out.2.2.size (fun x e => by rw [e]; exact LB.out)), (hk5.block gw (lt_of_some RE.out.2.1) (by omega)).trans RE.out.2.1⟩)
                      clear hT5 hk5 hs5 PL z0 z1 z2 z3 z4 z5 z6 z7 z8 z9
                      obtain ⟨f5, hF5⟩ : ∃ f : Nat → Bool, ∀ v : Nat, f v = true ↔ MayP D5 s (v : Int) path := ⟨fun v => @decide (MayP D5 s (v : Int) path) (Classical.propDecidable _), fun v => by simp⟩
                      have TOU : Hid (∀ v : Nat, f5 v = f v ∨ (true = true ∧ L.underB path obp = true)) := Lib.hid fun v => by
                        have ew : Sp.wh ⟨otwo, 1, overb, ⟨obp, obn, obs, obv⟩, op, oq, ou⟩ = obp := by unfold Sp.wh; rw [if_pos rfl]
                        have q := touch CH.out s path (v : Int)
                        rw [ew] at q
                        rcases q with q | q
                        · refine Or.inl ?_
                          rw [Bool.eq_iff_iff, hF5, FH.out]; exact q
                        · exact Or.inr ⟨rfl, q.2⟩
                      have M5 : Hid (∀ (W : World) (v : Nat), Ta W t b (i + 1 + 1) D5 → Calls Tryd.prog 11 #[.pointer (some ⟨t, 0, none⟩), .string s, .int .i64 (v : Int), .string path] W fun e w' => e = .returned (.bool (f5 v)) ∧ Below W.heap.size W w') := Lib.hid fun W v h => by
                        refine (may_any s v path W t b (i + 1 + 1) D5 h).mono ?_
                        rintro e w' ⟨r, rfl, h1, h2⟩
                        refine ⟨?_, h2⟩
                        have e : r = f5 v := by rw [Bool.eq_iff_iff, h1, hF5]
                        rw [e]
                      have HF5 := Lib.hid hF5
                      clear hF5
                      go_wp2_with fail
                      go_loopg [17] 4 (fun gg sv wx => ∃ k : Nat, k ≤ 4 ∧ gg = 4 - k ∧ sv = .int .i64 k ∧ Hid (Below w5.heap.size w5 wx))
                      case atStart => exact ⟨0, by omega, rfl, rfl, Lib.hid (Below.refl _ _)⟩
                      case round =>
                        clear RE hk4 hk4' G4
                        obtain ⟨j, hj, hg, rfl, R⟩ := hrel
                        have G5 := Lib.hid hg
                        clear hg
                        by_cases hj4 : j < 4
                        · have hj4' : (j : Int) < 4 := by omega
                          have hj0 : ¬ (j : Int) < 0 := by omega
                          have d0 : decide ((j : Int) < 0) = false := decide_eq_false hj0
                          have XR := Lib.hid (S5.out.1.below R.out)
                          have RC : ∀ (dq : Nat) (os : Array Obj), (Go.Sort.grow (redrawn wr dq) os).cell? ⟨gw, j, none⟩ = some (.bool (f j)) := fun dq os => cell_regrown (by
                            rw [cell_of_row _ _ _ _ _ _ ((R.out.block gw (lt_of_some S5.out.2.2)).trans S5.out.2.2)]
                            obtain rfl | rfl | rfl | rfl : j = 0 ∨ j = 1 ∨ j = 2 ∨ j = 3 := by omega
                            all_goals (simp [wasR])) dq os
                          have MQ : Hid (∀ (dq : Nat) (os : Array Obj), Calls Tryd.prog 11 #[.pointer (some ⟨t, 0, none⟩), .string s, .int .i64 (j : Int), .string path] (Go.Sort.grow (redrawn wr dq) os) fun e w'' => e = .returned (.bool (f5 j)) ∧ ∃ p : Regrown, w'' = Go.Sort.grow (redrawn wr p.d) p.os) := Lib.hid (fun dq os => Calls.regrown_of (M5.out _ j (XR.out.below (below_regrown wr dq os))))
                          have UQ : Hid (∀ (dq : Nat) (os : Array Obj), Calls Tryd.prog 17 #[.string path, .string obp] (Go.Sort.grow (redrawn wr dq) os) fun e w'' => e = .returned (.bool (L.underB path obp)) ∧ ∃ p : Regrown, w'' = Go.Sort.grow (redrawn wr p.d) p.os) := Lib.hid (fun dq os => Calls.regrown_of (L.under_any path obp _ (XR.out.hm.below (below_regrown wr dq os))))
                          by_cases ej : f5 j = f j
                          · have ne : (f5 j != f j) = false := by rw [ej]; exact bne_self_eq_false _
                            have ne2 : (f5 j == f j) = true := by rw [ej]; exact beq_self_eq_true _
                            clear TOU ej
                            go_wp2_with fail
                            refine wp_region_quiet_below (by kernel_rfl) (by kernel_rfl) ?_
                            repeat (go_big_quiet_step (first | with_reducible exact MQ.out _ _ | with_reducible exact UQ.out _ _))
                            refine wpQuiet_nil ?_
                            intro _ hw'
                            obtain ⟨⟨dq, osq⟩, hw''⟩ := hw'
                            subst hw''
                            go_wp2_with fail
                            go_roundg (4 - (j + 1))
                            case measure => have := G5.out; omega
                            case rel => exact ⟨j + 1, by omega, rfl, by go_num, Lib.hid (R.out.trans ((below_regrown wr dq osq).mono R.out.size))⟩
                          · have eu := ((TOU.out j).resolve_left ej).2
                            have ne : (f5 j != f j) = true := by rw [bne_iff_ne]; exact ej
                            have ne2 : (f5 j == f j) = false := by rw [beq_eq_false_iff_ne]; exact ej
                            rw [eu] at UQ
                            clear TOU ej eu
                            go_wp2_with fail
                            refine wp_region_quiet_below (by kernel_rfl) (by kernel_rfl) ?_
                            repeat (go_big_quiet_step (first | with_reducible exact MQ.out _ _ | with_reducible exact UQ.out _ _))
                            refine wpQuiet_nil ?_
                            intro _ hw'
                            obtain ⟨⟨dq, osq⟩, hw''⟩ := hw'
                            subst hw''
                            go_wp2_with fail
                            go_roundg (4 - (j + 1))
                            case measure => have := G5.out; omega
                            case rel => exact ⟨j + 1, by omega, rfl, by go_num, Lib.hid (R.out.trans ((below_regrown wr dq osq).mono R.out.size))⟩
                        · have hj4' : ¬ (j : Int) < 4 := by omega
                          go_wp2_with fail
                          go_ret
                          exact ⟨rfl, AX.out.1.trans ((S5.out.2.1.trans (R.out.mono S5.out.2.1.size)).mono AX.out.1.size)⟩
                · have q3 := teq_no e3
                  have TF : Hid ((∃ x, InD D3 x ∧ x.p = obp ∧ x.s = s) ∨ obs = s → false = true) := Lib.hid (fun h => h.elim TT.out (fun q => absurd q e3))
                  clear TT e3
                  go_wp2_with fail
                  clear hY' hgw' z0 z1 z2 z3 z4 z5 z6 z7 z8 z9
                  go_loopg [16] 4 (fun gg sv wx => ∃ k : Nat, k ≤ 4 ∧ gg = 4 - k ∧ sv = .int .i64 k ∧ Hid (Below W3.heap.size W3 wx ∧ wx.heap[gw]? = some (.cells (wasR f k) 44 (0, 0))))
                  case atStart => exact ⟨0, by omega, rfl, rfl, Lib.hid ⟨AY.out.1, AY.out.2.1⟩⟩
                  case round =>
                    obtain ⟨k, hk, hg, rfl, R⟩ := hrel
                    have G4 := Lib.hid hg
                    clear hg
                    by_cases hk4 : k < 4
                    · have hk4' : (k : Int) < 4 := by omega
                      have hk0 : ¬ (k : Int) < 0 := by omega
                      go_wp2_with fail
                      refine (MY.out wr k (S3.out.1.below R.out.1)).mono ?_
                      rintro e w6 ⟨rfl, hb⟩
                      have R6 : Hid (Below W3.heap.size W3 w6 ∧ w6.heap[gw]? = some (.cells (wasR f k) 44 (0, 0))) := Lib.hid ⟨R.out.1.trans (hb.mono R.out.1.size), (hb.block gw (lt_of_some R.out.2)).trans R.out.2⟩
                      have c6 : w6.cell? ⟨gw, k, none⟩ = some (.bool (decide (k < k) && f k)) := by
                        rw [cell_of_row _ _ _ _ _ _ R6.out.2]
                        obtain rfl | rfl | rfl | rfl : k = 0 ∨ k = 1 ∨ k = 2 ∨ k = 3 := by omega
                        all_goals rfl
                      have fz6 : w6.frozen? ⟨gw, k, none⟩ = false := by simp [World.frozen?, R6.out.2]
                      have R7 : Hid (Below W3.heap.size W3 (w6.setCell ⟨gw, k, none⟩ (.bool (f k))) ∧ (w6.setCell ⟨gw, k, none⟩ (.bool (f k))).heap[gw]? = some (.cells (wasR f (k + 1)) 44 (0, 0))) := Lib.hid ⟨R6.out.1.setCell (p := ⟨gw, k, none⟩) (by have := AY.out.2.2; simp only; omega) _, by
                        rw [heap_setCell_same _ _ _ _ _ _ R6.out.2]
                        obtain rfl | rfl | rfl | rfl : k = 0 ∨ k = 1 ∨ k = 2 ∨ k = 3 := by omega
                        all_goals (simp [wasR])⟩
                      clear hb
                      go_wp2_with fail
                      go_roundg (4 - (k + 1))
                      case measure => have := G4.out; omega
                      case rel => exact ⟨k + 1, by omega, rfl, by go_num, R7⟩
                    · have hk4' : ¬ (k : Int) < 4 := by omega
                      have RE : Hid (Below W3.heap.size W3 wr ∧ wr.heap[gw]? = some (.cells (wasR f 4) 44 (0, 0)) ∧ Below X.heap.size X wr) := Lib.hid ⟨R.out.1, by rw [R.out.2, show k = 4 by omega], S3.out.2.1.trans (R.out.1.mono S3.out.2.1.size)⟩
                      obtain ⟨z0, z1, z2, z3, z4, z5, z6, z7, z8, z9⟩ := CE.out wr RE.out.2.2
                      have PL := Lib.hid (play_ex ⟨otwo, 1, overb, ⟨obp, obn, obs, obv⟩, op, oq, ou⟩ wr t b (i + 1) D3 (S3.out.1.below RE.out.1) (by omega) FO.out)
                      unfold Sp.cells at PL
                      simp only at PL
                      clear R
                      go_wp2_with fail
                      refine PL.out.mono ?_
                      rintro e w5 ⟨rfl, D5, hT5, hk5, hs5⟩
                      have CH : Hid (Ch D3 ⟨otwo, 1, overb, ⟨obp, obn, obs, obv⟩, op, oq, ou⟩ D5) := Lib.hid (hs5.ch S3.out.1.tb.m.isMap FO.out V3.out)
                      have S5 : Hid (Ta w5 t b (i + 1 + 1) D5 ∧ Below X.heap.size X w5 ∧ w5.heap[gw]? = some (.cells (wasR f 4) 44 (0, 0))) := Lib.hid (by
                        have hb1 : b < gw := by rw [AY.out.2.2]; exact S3.out.1.tb.m.lt
                        exact ⟨hT5, RE.out.2.2.trans (hk5.below RE.out.2.2.size (fun x e => by rw [e]; exact LB.out)), (hk5.block gw (lt_of_some RE.out.2.1) (by omega)).trans RE.out.2.1⟩)
                      clear hT5 hk5 hs5 PL z0 z1 z2 z3 z4 z5 z6 z7 z8 z9
                      obtain ⟨f5, hF5⟩ : ∃ f : Nat → Bool, ∀ v : Nat, f v = true ↔ MayP D5 s (v : Int) path := ⟨fun v => @decide (MayP D5 s (v : Int) path) (Classical.propDecidable _), fun v => by simp⟩
                      have TOU : Hid (∀ v : Nat, f5 v = f v ∨ (false = true ∧ L.underB path obp = true)) := Lib.hid fun v => by
                        have ew : Sp.wh ⟨otwo, 1, overb, ⟨obp, obn, obs, obv⟩, op, oq, ou⟩ = obp := by unfold Sp.wh; rw [if_pos rfl]
                        have q := touch CH.out s path (v : Int)
                        rw [ew] at q
                        rcases q with q | q
                        · refine Or.inl ?_
                          rw [Bool.eq_iff_iff, hF5, FH.out]; exact q
                        · exact Or.inr ⟨TF.out (q.1.imp id (fun q => q.2)), q.2⟩
                      have M5 : Hid (∀ (W : World) (v : Nat), Ta W t b (i + 1 + 1) D5 → Calls Tryd.prog 11 #[.pointer (some ⟨t, 0, none⟩), .string s, .int .i64 (v : Int), .string path] W fun e w' => e = .returned (.bool (f5 v)) ∧ Below W.heap.size W w') := Lib.hid fun W v h => by
                        refine (may_any s v path W t b (i + 1 + 1) D5 h).mono ?_
                        rintro e w' ⟨r, rfl, h1, h2⟩
                        refine ⟨?_, h2⟩
                        have e : r = f5 v := by rw [Bool.eq_iff_iff, h1, hF5]
                        rw [e]
                      have HF5 := Lib.hid hF5
                      clear hF5
                      go_wp2_with fail
                      go_loopg [17] 4 (fun gg sv wx => ∃ k : Nat, k ≤ 4 ∧ gg = 4 - k ∧ sv = .int .i64 k ∧ Hid (Below w5.heap.size w5 wx))
                      case atStart => exact ⟨0, by omega, rfl, rfl, Lib.hid (Below.refl _ _)⟩
                      case round =>
                        clear RE hk4 hk4' G4
                        obtain ⟨j, hj, hg, rfl, R⟩ := hrel
                        have G5 := Lib.hid hg
                        clear hg
                        by_cases hj4 : j < 4
                        · have hj4' : (j : Int) < 4 := by omega
                          have hj0 : ¬ (j : Int) < 0 := by omega
                          have d0 : decide ((j : Int) < 0) = false := decide_eq_false hj0
                          have XR := Lib.hid (S5.out.1.below R.out)
                          have RC : ∀ (dq : Nat) (os : Array Obj), (Go.Sort.grow (redrawn wr dq) os).cell? ⟨gw, j, none⟩ = some (.bool (f j)) := fun dq os => cell_regrown (by
                            rw [cell_of_row _ _ _ _ _ _ ((R.out.block gw (lt_of_some S5.out.2.2)).trans S5.out.2.2)]
                            obtain rfl | rfl | rfl | rfl : j = 0 ∨ j = 1 ∨ j = 2 ∨ j = 3 := by omega
                            all_goals (simp [wasR])) dq os
                          have MQ : Hid (∀ (dq : Nat) (os : Array Obj), Calls Tryd.prog 11 #[.pointer (some ⟨t, 0, none⟩), .string s, .int .i64 (j : Int), .string path] (Go.Sort.grow (redrawn wr dq) os) fun e w'' => e = .returned (.bool (f5 j)) ∧ ∃ p : Regrown, w'' = Go.Sort.grow (redrawn wr p.d) p.os) := Lib.hid (fun dq os => Calls.regrown_of (M5.out _ j (XR.out.below (below_regrown wr dq os))))
                          have UQ : Hid (∀ (dq : Nat) (os : Array Obj), Calls Tryd.prog 17 #[.string path, .string obp] (Go.Sort.grow (redrawn wr dq) os) fun e w'' => e = .returned (.bool (L.underB path obp)) ∧ ∃ p : Regrown, w'' = Go.Sort.grow (redrawn wr p.d) p.os) := Lib.hid (fun dq os => Calls.regrown_of (L.under_any path obp _ (XR.out.hm.below (below_regrown wr dq os))))
                          by_cases ej : f5 j = f j
                          · have ne : (f5 j != f j) = false := by rw [ej]; exact bne_self_eq_false _
                            have ne2 : (f5 j == f j) = true := by rw [ej]; exact beq_self_eq_true _
                            clear TOU ej
                            go_wp2_with fail
                            refine wp_region_quiet_below (by kernel_rfl) (by kernel_rfl) ?_
                            repeat (go_big_quiet_step (first | with_reducible exact MQ.out _ _ | with_reducible exact UQ.out _ _))
                            refine wpQuiet_nil ?_
                            intro _ hw'
                            obtain ⟨⟨dq, osq⟩, hw''⟩ := hw'
                            subst hw''
                            go_wp2_with fail
                            go_roundg (4 - (j + 1))
                            case measure => have := G5.out; omega
                            case rel => exact ⟨j + 1, by omega, rfl, by go_num, Lib.hid (R.out.trans ((below_regrown wr dq osq).mono R.out.size))⟩
                          · exact absurd ((TOU.out j).resolve_left ej).1 (by decide)
                        · have hj4' : ¬ (j : Int) < 4 := by omega
                          go_wp2_with fail
                          go_ret
                          exact ⟨rfl, AX.out.1.trans ((S5.out.2.1.trans (R.out.mono S5.out.2.1.size)).mono AX.out.1.size)⟩
        · have gk1 : (okind == 1) = false := by rw [beq_eq_false_iff_ne]; exact hk1
          have NK := Lib.hid hk1
          clear hk1
          obtain ⟨z0, z1, z2, z3, z4, z5, z6, z7, z8, z9⟩ := CE.out wr T3.out.2
          go_wp2_with fail
          refine (list_any wr t b (i + 1) D3 T3.out.1 (by omega) V3.out).mono ?_
          rintro e w3 ⟨v3, T, rfl, hrow, hli, hb⟩
          obtain ⟨a, c, rfl, hTc, hTm⟩ := hrow.len
          obtain ⟨m0, hm0⟩ : ∃ m, m = T.length := ⟨_, rfl⟩
          rw [← hm0] at hrow ⊢
          have S3 : Hid (Ta w3 t b (i + 1) D3 ∧ Below X.heap.size X w3 ∧ Row kBv w3 (.slice a m0 c) T ∧ Li D3 T ∧ m0 = T.length) := Lib.hid ⟨T3.out.1.below hb, T3.out.2.trans (hb.mono T3.out.2.size), hrow, hli, hm0⟩
          have hm1 : m0 ≤ 9223372036854775807 := by unfold maxLen at hTm; omega
          clear hb hrow hli hTc hTm hm0 z0 z1 z2 z3 z4 z5 z6 z7 z8 z9
          go_wp2_with fail
          go_loopg [13, 14] m0 (fun gg s1 s2 wx => ∃ (j : Nat) (tb : Bool), j ≤ m0 ∧ gg = m0 - j ∧ s1 = .bool tb ∧ s2 = .int .i64 j ∧ wx = w3 ∧ Hid ((∃ y ∈ T.take j, y.1.p = op ∧ y.1.s = s) → tb = true))
          case atStart => exact ⟨0, false, by omega, rfl, rfl, rfl, rfl, Lib.hid (by simp)⟩
          case round =>
            obtain ⟨j, tb, hj, hg, rfl, rfl, hw, Q⟩ := hrel
            subst hw
            have G2 := Lib.hid hg
            clear hg
            by_cases hjn : j < m0
            · have hj' : (j : Int) < (m0 : Int) := by omega
              obtain ⟨bb, off, ea, pc⟩ := bd_at S3.out.2.2.1 j (by rw [← S3.out.2.2.2.2]; exact hjn)
              subst ea
              obtain ⟨y, hy⟩ : ∃ y, y = T.getD j Bv.z := ⟨_, rfl⟩
              rw [← hy] at pc
              have TK : Hid (T.take (j + 1) = T.take j ++ [y]) := Lib.hid (by
                have hl : j < T.length := by rw [← S3.out.2.2.2.2]; exact hjn
                rw [List.take_add_one, hy, List.getD_eq_getElem?_getD, List.getElem?_eq_getElem hl]; rfl)
              clear hy
              have p0 : wr.cell? ⟨bb, off + j * 4, none⟩ = some (.string y.1.p) := pc 0 _ rfl
              have p2 : wr.cell? ⟨bb, off + j * 4 + 2, none⟩ = some (.string y.1.s) := pc 2 _ rfl
              obtain ⟨yp, hyp⟩ : ∃ yp, yp = y.1.p := ⟨_, rfl⟩
              obtain ⟨ys, hys⟩ : ∃ ys, ys = y.1.s := ⟨_, rfl⟩
              rw [← hyp] at p0
              rw [← hys] at p2
              have YE := Lib.hid (And.intro hyp hys)
              clear pc hyp hys
              cases tb with
              | true =>
                go_wp2_with fail
                go_roundg (m0 - (j + 1))
                case measure => have := G2.out; omega
                case rel => exact ⟨j + 1, true, by omega, rfl, rfl, by go_num, rfl, Lib.hid (fun _ => rfl)⟩
              | false =>
                by_cases e1 : yp = op
                · have q1 : (yp.toList == op.toList) = true := by rw [e1]; exact teq_yes _
                  by_cases e2 : ys = s
                  · have q2 : (ys.toList == s.toList) = true := by rw [e2]; exact teq_yes _
                    clear e1 e2
                    go_wp2_with fail
                    go_roundg (m0 - (j + 1))
                    case measure => have := G2.out; omega
                    case rel => exact ⟨j + 1, true, by omega, rfl, rfl, by go_num, rfl, Lib.hid (fun _ => rfl)⟩
                  · have q2 := teq_no e2
                    have QN : Hid ((∃ y ∈ T.take (j + 1), y.1.p = op ∧ y.1.s = s) → false = true) := Lib.hid (by
                      rintro ⟨y, hy, h1, h2⟩
                      rw [TK.out, List.mem_append, List.mem_singleton] at hy
                      rcases hy with hy | rfl
                      · exact Q.out ⟨y, hy, h1, h2⟩
                      · exact absurd (YE.out.2.trans h2) e2)
                    clear e1 e2
                    go_wp2_with fail
                    go_roundg (m0 - (j + 1))
                    case measure => have := G2.out; omega
                    case rel => exact ⟨j + 1, false, by omega, rfl, rfl, by go_num, rfl, QN⟩
                · have q1 := teq_no e1
                  have QN : Hid ((∃ y ∈ T.take (j + 1), y.1.p = op ∧ y.1.s = s) → false = true) := Lib.hid (by
                    rintro ⟨y, hy, h1, h2⟩
                    rw [TK.out, List.mem_append, List.mem_singleton] at hy
                    rcases hy with hy | rfl
                    · exact Q.out ⟨y, hy, h1, h2⟩
                    · exact absurd (YE.out.1.trans h1) e1)
                  clear e1
                  go_wp2_with fail
                  go_roundg (m0 - (j + 1))
                  case measure => have := G2.out; omega
                  case rel => exact ⟨j + 1, false, by omega, rfl, rfl, by go_num, rfl, QN⟩
            · have hj' : ¬ (j : Int) < (m0 : Int) := by omega
              have TT : Hid ((∃ x, InD D3 x ∧ x.p = op ∧ x.s = s) → tb = true) := Lib.hid (by
                rintro ⟨x, hx, h1, h2⟩
                obtain ⟨y, hy, rfl⟩ := (S3.out.2.2.2.1.m x).2 hx
                refine Q.out ⟨y, ?_, h1, h2⟩
                rw [List.take_of_length_le (by rw [← S3.out.2.2.2.2]; omega)]
                exact hy)
              clear Q hj'
              obtain ⟨W3, rfl⟩ : ∃ W3, W3 = wr := ⟨_, rfl⟩
              obtain ⟨z0, z1, z2, z3, z4, z5, z6, z7, z8, z9⟩ := CE.out W3 S3.out.2.1
              obtain ⟨gw, hgw⟩ : ∃ g, g = W3.heap.size := ⟨_, rfl⟩
              obtain ⟨Y, hY⟩ : ∃ Y, Y = W3.alloc (.cells #[.bool false, .bool false, .bool false, .bool false] 44) := ⟨_, rfl⟩
              obtain ⟨f, hF⟩ : ∃ f : Nat → Bool, ∀ v : Nat, f v = true ↔ MayP D3 s (v : Int) path := ⟨fun v => @decide (MayP D3 s (v : Int) path) (Classical.propDecidable _), fun v => by simp⟩
              have FH := Lib.hid hF
              clear hF
              have MY : Hid (∀ (W : World) (v : Nat), Ta W t b (i + 1) D3 → Calls Tryd.prog 11 #[.pointer (some ⟨t, 0, none⟩), .string s, .int .i64 (v : Int), .string path] W fun e w' => e = .returned (.bool (f v)) ∧ Below W.heap.size W w') := Lib.hid fun W v h => by
                refine (may_any s v path W t b (i + 1) D3 h).mono ?_
                rintro e w' ⟨r, rfl, h1, h2⟩
                refine ⟨?_, h2⟩
                have e : r = f v := by rw [Bool.eq_iff_iff, h1, FH.out]
                rw [e]
              have AY : Hid (Below W3.heap.size W3 Y ∧ Y.heap[gw]? = some (.cells (wasR f 0) 44 (0, 0)) ∧ gw = W3.heap.size) := Lib.hid ⟨by rw [hY]; exact (Below.refl _ _).alloc (Nat.le_refl _) _, by rw [hY, hgw, heap_alloc_new]; simp [wasR], hgw⟩
              have hY' := hY.symm
              have hgw' := hgw.symm
              clear hY hgw
              cases tb with
              | true =>
                clear TT
                go_wp2_with fail
                clear hY' hgw' z0 z1 z2 z3 z4 z5 z6 z7 z8 z9
                go_loopg [16] 4 (fun gg sv wx => ∃ k : Nat, k ≤ 4 ∧ gg = 4 - k ∧ sv = .int .i64 k ∧ Hid (Below W3.heap.size W3 wx ∧ wx.heap[gw]? = some (.cells (wasR f k) 44 (0, 0))))
                case atStart => exact ⟨0, by omega, rfl, rfl, Lib.hid ⟨AY.out.1, AY.out.2.1⟩⟩
                case round =>
                  obtain ⟨k, hk, hg, rfl, R⟩ := hrel
                  have G4 := Lib.hid hg
                  clear hg
                  by_cases hk4 : k < 4
                  · have hk4' : (k : Int) < 4 := by omega
                    have hk0 : ¬ (k : Int) < 0 := by omega
                    go_wp2_with fail
                    refine (MY.out wr k (S3.out.1.below R.out.1)).mono ?_
                    rintro e w6 ⟨rfl, hb⟩
                    have R6 : Hid (Below W3.heap.size W3 w6 ∧ w6.heap[gw]? = some (.cells (wasR f k) 44 (0, 0))) := Lib.hid ⟨R.out.1.trans (hb.mono R.out.1.size), (hb.block gw (lt_of_some R.out.2)).trans R.out.2⟩
                    have c6 : w6.cell? ⟨gw, k, none⟩ = some (.bool (decide (k < k) && f k)) := by
                      rw [cell_of_row _ _ _ _ _ _ R6.out.2]
                      obtain rfl | rfl | rfl | rfl : k = 0 ∨ k = 1 ∨ k = 2 ∨ k = 3 := by omega
                      all_goals rfl
                    have fz6 : w6.frozen? ⟨gw, k, none⟩ = false := by simp [World.frozen?, R6.out.2]
                    have R7 : Hid (Below W3.heap.size W3 (w6.setCell ⟨gw, k, none⟩ (.bool (f k))) ∧ (w6.setCell ⟨gw, k, none⟩ (.bool (f k))).heap[gw]? = some (.cells (wasR f (k + 1)) 44 (0, 0))) := Lib.hid ⟨R6.out.1.setCell (p := ⟨gw, k, none⟩) (by have := AY.out.2.2; simp only; omega) _, by
                      rw [heap_setCell_same _ _ _ _ _ _ R6.out.2]
                      obtain rfl | rfl | rfl | rfl : k = 0 ∨ k = 1 ∨ k = 2 ∨ k = 3 := by omega
                      all_goals (simp [wasR])⟩
                    clear hb
                    go_wp2_with fail
                    go_roundg (4 - (k + 1))
                    case measure => have := G4.out; omega
                    case rel => exact ⟨k + 1, by omega, rfl, by go_num, R7⟩
                  · have hk4' : ¬ (k : Int) < 4 := by omega
                    have RE : Hid (Below W3.heap.size W3 wr ∧ wr.heap[gw]? = some (.cells (wasR f 4) 44 (0, 0)) ∧ Below X.heap.size X wr) := Lib.hid ⟨R.out.1, by rw [R.out.2, show k = 4 by omega], S3.out.2.1.trans (R.out.1.mono S3.out.2.1.size)⟩
                    obtain ⟨z0, z1, z2, z3, z4, z5, z6, z7, z8, z9⟩ := CE.out wr RE.out.2.2
                    have PL := Lib.hid (play_ex ⟨otwo, okind, overb, ⟨obp, obn, obs, obv⟩, op, oq, ou⟩ wr t b (i + 1) D3 (S3.out.1.below RE.out.1) (by omega) FO.out)
                    unfold Sp.cells at PL
                    simp only at PL
                    clear R
                    go_wp2_with fail
                    refine PL.out.mono ?_
                    rintro e w5 ⟨rfl, D5, hT5, hk5, hs5⟩
                    have CH : Hid (Ch D3 ⟨otwo, okind, overb, ⟨obp, obn, obs, obv⟩, op, oq, ou⟩ D5) := Lib.hid (hs5.ch S3.out.1.tb.m.isMap FO.out V3.out)
                    have S5 : Hid (Ta w5 t b (i + 1 + 1) D5 ∧ Below X.heap.size X w5 ∧ w5.heap[gw]? = some (.cells (wasR f 4) 44 (0, 0))) := Lib.hid (by
                      have hb1 : b < gw := by rw [AY.out.2.2]; exact S3.out.1.tb.m.lt
                      exact ⟨hT5, RE.out.2.2.trans (hk5.below RE.out.2.2.size (fun x e => by rw [e]; exact LB.out)), (hk5.block gw (lt_of_some RE.out.2.1) (by omega)).trans RE.out.2.1⟩)
                    clear hT5 hk5 hs5 PL z0 z1 z2 z3 z4 z5 z6 z7 z8 z9
                    obtain ⟨f5, hF5⟩ : ∃ f : Nat → Bool, ∀ v : Nat, f v = true ↔ MayP D5 s (v : Int) path := ⟨fun v => @decide (MayP D5 s (v : Int) path) (Classical.propDecidable _), fun v => by simp⟩
                    have TOU : Hid (∀ v : Nat, f5 v = f v ∨ (true = true ∧ L.underB path op = true)) := Lib.hid fun v => by
                      have ew : Sp.wh ⟨otwo, okind, overb, ⟨obp, obn, obs, obv⟩, op, oq, ou⟩ = op := by unfold Sp.wh; rw [if_neg NK.out]
                      have q := touch CH.out s path (v : Int)
                      rw [ew] at q
                      rcases q with q | q
                      · refine Or.inl ?_
                        rw [Bool.eq_iff_iff, hF5, FH.out]; exact q
                      · exact Or.inr ⟨rfl, q.2⟩
                    have M5 : Hid (∀ (W : World) (v : Nat), Ta W t b (i + 1 + 1) D5 → Calls Tryd.prog 11 #[.pointer (some ⟨t, 0, none⟩), .string s, .int .i64 (v : Int), .string path] W fun e w' => e = .returned (.bool (f5 v)) ∧ Below W.heap.size W w') := Lib.hid fun W v h => by
                      refine (may_any s v path W t b (i + 1 + 1) D5 h).mono ?_
                      rintro e w' ⟨r, rfl, h1, h2⟩
                      refine ⟨?_, h2⟩
                      have e : r = f5 v := by rw [Bool.eq_iff_iff, h1, hF5]
                      rw [e]
                    have HF5 := Lib.hid hF5
                    clear hF5
                    go_wp2_with fail
                    go_loopg [17] 4 (fun gg sv wx => ∃ k : Nat, k ≤ 4 ∧ gg = 4 - k ∧ sv = .int .i64 k ∧ Hid (Below w5.heap.size w5 wx))
                    case atStart => exact ⟨0, by omega, rfl, rfl, Lib.hid (Below.refl _ _)⟩
                    case round =>
                      clear RE hk4 hk4' G4
                      obtain ⟨j, hj, hg, rfl, R⟩ := hrel
                      have G5 := Lib.hid hg
                      clear hg
                      by_cases hj4 : j < 4
                      · have hj4' : (j : Int) < 4 := by omega
                        have hj0 : ¬ (j : Int) < 0 := by omega
                        have d0 : decide ((j : Int) < 0) = false := decide_eq_false hj0
                        have XR := Lib.hid (S5.out.1.below R.out)
                        have RC : ∀ (dq : Nat) (os : Array Obj), (Go.Sort.grow (redrawn wr dq) os).cell? ⟨gw, j, none⟩ = some (.bool (f j)) := fun dq os => cell_regrown (by
                          rw [cell_of_row _ _ _ _ _ _ ((R.out.block gw (lt_of_some S5.out.2.2)).trans S5.out.2.2)]
                          obtain rfl | rfl | rfl | rfl : j = 0 ∨ j = 1 ∨ j = 2 ∨ j = 3 := by omega
                          all_goals (simp [wasR])) dq os
                        have MQ : Hid (∀ (dq : Nat) (os : Array Obj), Calls Tryd.prog 11 #[.pointer (some ⟨t, 0, none⟩), .string s, .int .i64 (j : Int), .string path] (Go.Sort.grow (redrawn wr dq) os) fun e w'' => e = .returned (.bool (f5 j)) ∧ ∃ p : Regrown, w'' = Go.Sort.grow (redrawn wr p.d) p.os) := Lib.hid (fun dq os => Calls.regrown_of (M5.out _ j (XR.out.below (below_regrown wr dq os))))
                        have UQ : Hid (∀ (dq : Nat) (os : Array Obj), Calls Tryd.prog 17 #[.string path, .string op] (Go.Sort.grow (redrawn wr dq) os) fun e w'' => e = .returned (.bool (L.underB path op)) ∧ ∃ p : Regrown, w'' = Go.Sort.grow (redrawn wr p.d) p.os) := Lib.hid (fun dq os => Calls.regrown_of (L.under_any path op _ (XR.out.hm.below (below_regrown wr dq os))))
                        by_cases ej : f5 j = f j
                        · have ne : (f5 j != f j) = false := by rw [ej]; exact bne_self_eq_false _
                          have ne2 : (f5 j == f j) = true := by rw [ej]; exact beq_self_eq_true _
                          clear TOU ej
                          go_wp2_with fail
                          refine wp_region_quiet_below (by kernel_rfl) (by kernel_rfl) ?_
                          repeat (go_big_quiet_step (first | with_reducible exact MQ.out _ _ | with_reducible exact UQ.out _ _))
                          refine wpQuiet_nil ?_
                          intro _ hw'
                          obtain ⟨⟨dq, osq⟩, hw''⟩ := hw'
                          subst hw''
                          go_wp2_with fail
                          go_roundg (4 - (j + 1))
                          case measure => have := G5.out; omega
                          case rel => exact ⟨j + 1, by omega, rfl, by go_num, Lib.hid (R.out.trans ((below_regrown wr dq osq).mono R.out.size))⟩
                        · have eu := ((TOU.out j).resolve_left ej).2
                          have ne : (f5 j != f j) = true := by rw [bne_iff_ne]; exact ej
                          have ne2 : (f5 j == f j) = false := by rw [beq_eq_false_iff_ne]; exact ej
                          rw [eu] at UQ
                          clear TOU ej eu
                          go_wp2_with fail
                          refine wp_region_quiet_below (by kernel_rfl) (by kernel_rfl) ?_
                          repeat (go_big_quiet_step (first | with_reducible exact MQ.out _ _ | with_reducible exact UQ.out _ _))
                          refine wpQuiet_nil ?_
                          intro _ hw'
                          obtain ⟨⟨dq, osq⟩, hw''⟩ := hw'
                          subst hw''
                          go_wp2_with fail
                          go_roundg (4 - (j + 1))
                          case measure => have := G5.out; omega
                          case rel => exact ⟨j + 1, by omega, rfl, by go_num, Lib.hid (R.out.trans ((below_regrown wr dq osq).mono R.out.size))⟩
                      · have hj4' : ¬ (j : Int) < 4 := by omega
                        go_wp2_with fail
                        go_ret
                        exact ⟨rfl, AX.out.1.trans ((S5.out.2.1.trans (R.out.mono S5.out.2.1.size)).mono AX.out.1.size)⟩
              | false =>
                have TF : Hid ((∃ x, InD D3 x ∧ x.p = op ∧ x.s = s) → false = true) := Lib.hid TT.out
                clear TT
                go_wp2_with fail
                clear hY' hgw' z0 z1 z2 z3 z4 z5 z6 z7 z8 z9
                go_loopg [16] 4 (fun gg sv wx => ∃ k : Nat, k ≤ 4 ∧ gg = 4 - k ∧ sv = .int .i64 k ∧ Hid (Below W3.heap.size W3 wx ∧ wx.heap[gw]? = some (.cells (wasR f k) 44 (0, 0))))
                case atStart => exact ⟨0, by omega, rfl, rfl, Lib.hid ⟨AY.out.1, AY.out.2.1⟩⟩
                case round =>
                  obtain ⟨k, hk, hg, rfl, R⟩ := hrel
                  have G4 := Lib.hid hg
                  clear hg
                  by_cases hk4 : k < 4
                  · have hk4' : (k : Int) < 4 := by omega
                    have hk0 : ¬ (k : Int) < 0 := by omega
                    go_wp2_with fail
                    refine (MY.out wr k (S3.out.1.below R.out.1)).mono ?_
                    rintro e w6 ⟨rfl, hb⟩
                    have R6 : Hid (Below W3.heap.size W3 w6 ∧ w6.heap[gw]? = some (.cells (wasR f k) 44 (0, 0))) := Lib.hid ⟨R.out.1.trans (hb.mono R.out.1.size), (hb.block gw (lt_of_some R.out.2)).trans R.out.2⟩
                    have c6 : w6.cell? ⟨gw, k, none⟩ = some (.bool (decide (k < k) && f k)) := by
                      rw [cell_of_row _ _ _ _ _ _ R6.out.2]
                      obtain rfl | rfl | rfl | rfl : k = 0 ∨ k = 1 ∨ k = 2 ∨ k = 3 := by omega
                      all_goals rfl
                    have fz6 : w6.frozen? ⟨gw, k, none⟩ = false := by simp [World.frozen?, R6.out.2]
                    have R7 : Hid (Below W3.heap.size W3 (w6.setCell ⟨gw, k, none⟩ (.bool (f k))) ∧ (w6.setCell ⟨gw, k, none⟩ (.bool (f k))).heap[gw]? = some (.cells (wasR f (k + 1)) 44 (0, 0))) := Lib.hid ⟨R6.out.1.setCell (p := ⟨gw, k, none⟩) (by have := AY.out.2.2; simp only; omega) _, by
                      rw [heap_setCell_same _ _ _ _ _ _ R6.out.2]
                      obtain rfl | rfl | rfl | rfl : k = 0 ∨ k = 1 ∨ k = 2 ∨ k = 3 := by omega
                      all_goals (simp [wasR])⟩
                    clear hb
                    go_wp2_with fail
                    go_roundg (4 - (k + 1))
                    case measure => have := G4.out; omega
                    case rel => exact ⟨k + 1, by omega, rfl, by go_num, R7⟩
                  · have hk4' : ¬ (k : Int) < 4 := by omega
                    have RE : Hid (Below W3.heap.size W3 wr ∧ wr.heap[gw]? = some (.cells (wasR f 4) 44 (0, 0)) ∧ Below X.heap.size X wr) := Lib.hid ⟨R.out.1, by rw [R.out.2, show k = 4 by omega], S3.out.2.1.trans (R.out.1.mono S3.out.2.1.size)⟩
                    obtain ⟨z0, z1, z2, z3, z4, z5, z6, z7, z8, z9⟩ := CE.out wr RE.out.2.2
                    have PL := Lib.hid (play_ex ⟨otwo, okind, overb, ⟨obp, obn, obs, obv⟩, op, oq, ou⟩ wr t b (i + 1) D3 (S3.out.1.below RE.out.1) (by omega) FO.out)
                    unfold Sp.cells at PL
                    simp only at PL
                    clear R
                    go_wp2_with fail
                    refine PL.out.mono ?_
                    rintro e w5 ⟨rfl, D5, hT5, hk5, hs5⟩
                    have CH : Hid (Ch D3 ⟨otwo, okind, overb, ⟨obp, obn, obs, obv⟩, op, oq, ou⟩ D5) := Lib.hid (hs5.ch S3.out.1.tb.m.isMap FO.out V3.out)
                    have S5 : Hid (Ta w5 t b (i + 1 + 1) D5 ∧ Below X.heap.size X w5 ∧ w5.heap[gw]? = some (.cells (wasR f 4) 44 (0, 0))) := Lib.hid (by
                      have hb1 : b < gw := by rw [AY.out.2.2]; exact S3.out.1.tb.m.lt
                      exact ⟨hT5, RE.out.2.2.trans (hk5.below RE.out.2.2.size (fun x e => by rw [e]; exact LB.out)), (hk5.block gw (lt_of_some RE.out.2.1) (by omega)).trans RE.out.2.1⟩)
                    clear hT5 hk5 hs5 PL z0 z1 z2 z3 z4 z5 z6 z7 z8 z9
                    obtain ⟨f5, hF5⟩ : ∃ f : Nat → Bool, ∀ v : Nat, f v = true ↔ MayP D5 s (v : Int) path := ⟨fun v => @decide (MayP D5 s (v : Int) path) (Classical.propDecidable _), fun v => by simp⟩
                    have TOU : Hid (∀ v : Nat, f5 v = f v ∨ (false = true ∧ L.underB path op = true)) := Lib.hid fun v => by
                      have ew : Sp.wh ⟨otwo, okind, overb, ⟨obp, obn, obs, obv⟩, op, oq, ou⟩ = op := by unfold Sp.wh; rw [if_neg NK.out]
                      have q := touch CH.out s path (v : Int)
                      rw [ew] at q
                      rcases q with q | q
                      · refine Or.inl ?_
                        rw [Bool.eq_iff_iff, hF5, FH.out]; exact q
                      · exact Or.inr ⟨TF.out (q.1.elim id (fun q => absurd q.1 NK.out)), q.2⟩
                    have M5 : Hid (∀ (W : World) (v : Nat), Ta W t b (i + 1 + 1) D5 → Calls Tryd.prog 11 #[.pointer (some ⟨t, 0, none⟩), .string s, .int .i64 (v : Int), .string path] W fun e w' => e = .returned (.bool (f5 v)) ∧ Below W.heap.size W w') := Lib.hid fun W v h => by
                      refine (may_any s v path W t b (i + 1 + 1) D5 h).mono ?_
                      rintro e w' ⟨r, rfl, h1, h2⟩
                      refine ⟨?_, h2⟩
                      have e : r = f5 v := by rw [Bool.eq_iff_iff, h1, hF5]
                      rw [e]
                    have HF5 := Lib.hid hF5
                    clear hF5
                    go_wp2_with fail
                    go_loopg [17] 4 (fun gg sv wx => ∃ k : Nat, k ≤ 4 ∧ gg = 4 - k ∧ sv = .int .i64 k ∧ Hid (Below w5.heap.size w5 wx))
                    case atStart => exact ⟨0, by omega, rfl, rfl, Lib.hid (Below.refl _ _)⟩
                    case round =>
                      clear RE hk4 hk4' G4
                      obtain ⟨j, hj, hg, rfl, R⟩ := hrel
                      have G5 := Lib.hid hg
                      clear hg
                      by_cases hj4 : j < 4
                      · have hj4' : (j : Int) < 4 := by omega
                        have hj0 : ¬ (j : Int) < 0 := by omega
                        have d0 : decide ((j : Int) < 0) = false := decide_eq_false hj0
                        have XR := Lib.hid (S5.out.1.below R.out)
                        have RC : ∀ (dq : Nat) (os : Array Obj), (Go.Sort.grow (redrawn wr dq) os).cell? ⟨gw, j, none⟩ = some (.bool (f j)) := fun dq os => cell_regrown (by
                          rw [cell_of_row _ _ _ _ _ _ ((R.out.block gw (lt_of_some S5.out.2.2)).trans S5.out.2.2)]
                          obtain rfl | rfl | rfl | rfl : j = 0 ∨ j = 1 ∨ j = 2 ∨ j = 3 := by omega
                          all_goals (simp [wasR])) dq os
                        have MQ : Hid (∀ (dq : Nat) (os : Array Obj), Calls Tryd.prog 11 #[.pointer (some ⟨t, 0, none⟩), .string s, .int .i64 (j : Int), .string path] (Go.Sort.grow (redrawn wr dq) os) fun e w'' => e = .returned (.bool (f5 j)) ∧ ∃ p : Regrown, w'' = Go.Sort.grow (redrawn wr p.d) p.os) := Lib.hid (fun dq os => Calls.regrown_of (M5.out _ j (XR.out.below (below_regrown wr dq os))))
                        have UQ : Hid (∀ (dq : Nat) (os : Array Obj), Calls Tryd.prog 17 #[.string path, .string op] (Go.Sort.grow (redrawn wr dq) os) fun e w'' => e = .returned (.bool (L.underB path op)) ∧ ∃ p : Regrown, w'' = Go.Sort.grow (redrawn wr p.d) p.os) := Lib.hid (fun dq os => Calls.regrown_of (L.under_any path op _ (XR.out.hm.below (below_regrown wr dq os))))
                        by_cases ej : f5 j = f j
                        · have ne : (f5 j != f j) = false := by rw [ej]; exact bne_self_eq_false _
                          have ne2 : (f5 j == f j) = true := by rw [ej]; exact beq_self_eq_true _
                          clear TOU ej
                          go_wp2_with fail
                          refine wp_region_quiet_below (by kernel_rfl) (by kernel_rfl) ?_
                          repeat (go_big_quiet_step (first | with_reducible exact MQ.out _ _ | with_reducible exact UQ.out _ _))
                          refine wpQuiet_nil ?_
                          intro _ hw'
                          obtain ⟨⟨dq, osq⟩, hw''⟩ := hw'
                          subst hw''
                          go_wp2_with fail
                          go_roundg (4 - (j + 1))
                          case measure => have := G5.out; omega
                          case rel => exact ⟨j + 1, by omega, rfl, by go_num, Lib.hid (R.out.trans ((below_regrown wr dq osq).mono R.out.size))⟩
                        · exact absurd ((TOU.out j).resolve_left ej).1 (by decide)
                      · have hj4' : ¬ (j : Int) < 4 := by omega
                        go_wp2_with fail
                        go_ret
                        exact ⟨rfl, AX.out.1.trans ((S5.out.2.1.trans (R.out.mono S5.out.2.1.size)).mono AX.out.1.size)⟩
end Ac
end Go.Proofs.YtiddgagfdijjeaaDoor
