/-
  AccessPlays.
-/
import Derived.Test.YthdofbjijpghfaaGreatDoorMgF
namespace Go.Proofs.YthdofbjijpghfaaGreatDoor
open Go.RowKit Go.Sort
namespace Ac
theorem Tx.below {w W W' : World} {t b r t2 b2 r2 n : Nat} (h : Tx w t b r t2 b2 r2 n W) (hb : Below W.heap.size W W') : Tx w t b r t2 b2 r2 n W' := by
  obtain ⟨⟨a, c, D, M, a2, c2, D2, M2, hT⟩, hB, h1, h2, h3, h4⟩ := h
  exact ⟨⟨a, c, D, M, a2, c2, D2, M2, hT.x.below hb, hT.y.below hb, hT.b, hT.r, hT.k⟩, hB.trans (hb.mono hB.size), h1, h2, h3, h4⟩
theorem pr_lt {w : World} {t b n r : Nat} {a : Option Addr} {c : Nat} {D : DataW Unit} {M : List Bv} (h : Pr w t b n r a c D M) : ∀ y, (y = b ∨ y = r ∨ (Value.slice a M.length c).ownBlock = some y) → y < w.heap.size := by
  obtain ⟨B, _, hR⟩ := h.rt
  obtain ⟨es, k, hb⟩ := h.ta.tb.map
  rintro y (rfl | rfl | e)
  · exact lt_of_some hb
  · exact lt_of_some hR.x
  · exact row_lt h e
theorem Tx.two_alloc {w W : World} {t b r t2 b2 r2 n : Nat} (h : Tx w t b r t2 b2 r2 n W) (o : Sp) (hn : n ≤ 900000) (hf : o.Fit) (hz : o.b.p.size ≤ 1048576 ∧ o.p.size ≤ 1048576) (x : Obj) :
    Calls Tryz.prog 6 #[.pointer (some ⟨t2, 0, none⟩), .pointer (some ⟨r2, 0, none⟩), .agg o.cells.toArray] (W.alloc x) fun e w' => e = .returned (.bool true) ∧ Tx w t b r t2 b2 r2 (n + 1) w' ∧ w'.heap[W.heap.size]? = (W.alloc x).heap[W.heap.size]? := by
  have hA : Below W.heap.size W (W.alloc x) := (Below.refl _ _).alloc (Nat.le_refl _) _
  have h' := h.below hA
  obtain ⟨⟨a, c, D, M, a2, c2, D2, M2, hT⟩, hB, h1, h2, h3, h4⟩ := h
  have hy := hT.y
  refine (plays_any o (W.alloc x) (hy.below hA) hn hf hz).mono ?_
  rintro e w' ⟨rfl, hs⟩
  have hT1 : Tw (W.alloc x) t b r t2 b2 r2 n a c D M a2 c2 D2 M2 := ⟨hT.x.below hA, hT.y.below hA, hT.b, hT.r, hT.k⟩
  obtain ⟨a', c', D', M', hT'⟩ := hT1.two hs
  refine ⟨rfl, ⟨⟨a, c, D, M, a', c', D', M', hT'⟩, pls_below hT1.y hs h'.bl h3 h4, h1, h2, h3, h4⟩, ?_⟩
  obtain ⟨_, _, _, _, _, hK, _⟩ := hs
  exact hK.block _ (by simp) (fun e => by have := pr_lt hy _ e; omega)
theorem Tx.one_alloc {w W : World} {t b r t2 b2 r2 n : Nat} (h : Tx w t b r t2 b2 r2 n W) (o : Sp) (hn : n ≤ 900000) (hf : o.Fit) (hz : o.b.p.size ≤ 1048576 ∧ o.p.size ≤ 1048576) (x : Obj) :
    Calls Tryz.prog 6 #[.pointer (some ⟨t, 0, none⟩), .pointer (some ⟨r, 0, none⟩), .agg o.cells.toArray] (W.alloc x) fun e w' => e = .returned (.bool true) ∧ Tx w t b r t2 b2 r2 (n + 1) w' :=
  (h.below ((Below.refl _ _).alloc (Nat.le_refl _) _)).one o hn hf hz
set_option maxHeartbeats 16000000 in
set_option maxRecDepth 100000 in
theorem all_plays (v0 : Value) (l : List Sp) (w : World) (hm : L.HasM w) (hv : Row kSp w v0 l) (hf : ∀ o ∈ l, o.Fit ∧ o.b.p.size ≤ 1048576 ∧ o.p.size ≤ 1048576) (hl : l.length ≤ 600000) :
    Calls Tryz.prog 3 #[v0] w fun e w' => e = .returned (.bool true) ∧ Below w.heap.size w w' := by
  obtain ⟨a0, c0, rfl, hlc, hcm⟩ := hv.len
  obtain ⟨n0, hn0⟩ : ∃ n0, n0 = l.length := ⟨_, rfl⟩
  rw [← hn0] at hv hl ⊢
  have HV := Lib.hid hv
  have HF := Lib.hid hf
  have HN := Lib.hid hn0
  have HL := Lib.hid hl
  have HM := Lib.hid hm
  clear hv hf hm hlc hcm hn0
  go_enter Tryz.func3, Tryz.ntmps3
  go_wp2_with fail
  refine (new_any w).mono ?_
  rintro e w1 ⟨t, b, rfl, hT1, _, hb1, hB1⟩
  have N1 := Lib.hid (And.intro hT1 (And.intro hb1 hB1))
  clear hT1 hb1 hB1
  go_wp2_with fail
  refine (new_any w1).mono ?_
  rintro e w2 ⟨t2, b2, rfl, hT2, _, hb2, hB2⟩
  have N2 := Lib.hid (And.intro hT2 (And.intro hb2 hB2))
  clear hT2 hb2 hB2
  obtain ⟨r, hr⟩ : ∃ r, r = w2.heap.size := ⟨_, rfl⟩
  obtain ⟨X, hX⟩ : ∃ X, X = w2.alloc (.cells #[.slice none 0 0] 40) := ⟨_, rfl⟩
  obtain ⟨Y, hY⟩ : ∃ Y, Y = X.alloc (.cells #[.slice none 0 0] 40) := ⟨_, rfl⟩
  have TX : Hid (Tx w t b r t2 b2 (r + 1) 0 Y ∧ X.heap.size = r + 1) := Lib.hid ⟨by rw [hY, hX, hr]; exact Tx.start HM.out N1.out.1 N1.out.2.1 N1.out.2.2 N2.out.1 N2.out.2.1 N2.out.2.2, by rw [hX, World.size_alloc, hr]⟩
  have A1 : Hid (Calls Tryz.prog 5 #[] w2 fun e w' => e = .returned (.pointer (some ⟨r, 0, none⟩)) ∧ w' = X) := Lib.hid (by rw [hX, hr]; exact refNew_any w2)
  have A2 : Hid (Calls Tryz.prog 5 #[] X fun e w' => e = .returned (.pointer (some ⟨r + 1, 0, none⟩)) ∧ w' = Y) := Lib.hid (by rw [hY, ← TX.out.2]; exact refNew_any X)
  clear hX hY hr N1 N2
  go_wp2_with fail
  refine A1.out.mono ?_
  rintro e w3 ⟨rfl, rfl⟩
  clear A1
  go_wp2_with fail
  refine A2.out.mono ?_
  rintro e w4 ⟨rfl, rfl⟩
  have T0 := Lib.hid TX.out.1
  clear A2 TX
  go_wp2_with fail
  go_loopg [7] n0 (fun gg si wr => ∃ i : Nat, i ≤ n0 ∧ gg = n0 - i ∧ si = .int .i64 i ∧ Hid (Tx w t b r t2 b2 (r + 1) i wr))
  case atStart => exact ⟨0, by omega, rfl, rfl, T0⟩
  case round =>
    clear T0
    obtain ⟨i, hi, hg, rfl, S⟩ := hrel
    have G := Lib.hid hg
    clear hg
    by_cases hlt : i < n0
    · have h1 : (i : Int) < (n0 : Int) := by omega
      obtain ⟨bb, off, ea, pc⟩ := sp_at (HV.out.below S.out.bl) i (by rw [← HN.out]; exact hlt)
      subst ea
      have FT := Lib.hid (HF.out _ (show l.getD i kSp.z ∈ l by
        rw [List.getD_eq_getElem?_getD, List.getElem?_eq_getElem (by rw [← HN.out]; exact hlt)]
        exact List.getElem_mem _))
      obtain ⟨⟨two, kind, verb, ⟨bp, bn, bs, bv⟩, p, q, u⟩, ho⟩ : ∃ o, o = l.getD i kSp.z := ⟨_, rfl⟩
      rw [← ho] at pc FT
      have p0 : wr.cell? ⟨bb, off + i * 10, none⟩ = some (.bool two) := pc 0 _ rfl
      have p1 : wr.cell? ⟨bb, off + i * 10 + 1, none⟩ = some (.int .i64 kind) := pc 1 _ rfl
      have p2 : wr.cell? ⟨bb, off + i * 10 + 2, none⟩ = some (.int .i64 verb) := pc 2 _ rfl
      have p3 : wr.cell? ⟨bb, off + i * 10 + 3, none⟩ = some (.string bp) := pc 3 _ rfl
      have p4 : wr.cell? ⟨bb, off + i * 10 + 4, none⟩ = some (.string bn) := pc 4 _ rfl
      have p5 : wr.cell? ⟨bb, off + i * 10 + 5, none⟩ = some (.string bs) := pc 5 _ rfl
      have p6 : wr.cell? ⟨bb, off + i * 10 + 6, none⟩ = some (.int .i64 bv) := pc 6 _ rfl
      have p7 : wr.cell? ⟨bb, off + i * 10 + 7, none⟩ = some (.string p) := pc 7 _ rfl
      have p8 : wr.cell? ⟨bb, off + i * 10 + 8, none⟩ = some (.string q) := pc 8 _ rfl
      have p9 : wr.cell? ⟨bb, off + i * 10 + 9, none⟩ = some (.string u) := pc 9 _ rfl
      have i9 : Hid (i ≤ 900000) := Lib.hid (by have := HL.out; omega)
      clear pc ho
      have PL : Hid (∀ x, Calls Tryz.prog 6 #[.pointer (some ⟨t, 0, none⟩), .pointer (some ⟨r, 0, none⟩), .agg (Sp.cells ⟨two, kind, verb, ⟨bp, bn, bs, bv⟩, p, q, u⟩).toArray] (wr.alloc x) fun e w' => e = .returned (.bool true) ∧ Tx w t b r t2 b2 (r + 1) (i + 1) w') := Lib.hid (S.out.one_alloc ⟨two, kind, verb, ⟨bp, bn, bs, bv⟩, p, q, u⟩ i9.out FT.out.1 FT.out.2)
      have PM : Hid (∀ x, Calls Tryz.prog 6 #[.pointer (some ⟨t2, 0, none⟩), .pointer (some ⟨r + 1, 0, none⟩), .agg (Sp.cells ⟨two, kind, verb, ⟨bp, bn, bs, bv⟩, p, q, u⟩).toArray] (wr.alloc x) fun e w' => e = .returned (.bool true) ∧ Tx w t b r t2 b2 (r + 1) (i + 1) w' ∧ w'.heap[wr.heap.size]? = (wr.alloc x).heap[wr.heap.size]?) := Lib.hid (S.out.two_alloc ⟨two, kind, verb, ⟨bp, bn, bs, bv⟩, p, q, u⟩ i9.out FT.out.1 FT.out.2)
      unfold Sp.cells at PL PM
      simp only at PL PM
      cases two
      · go_wp2_with fail
        refine (PL.out _).mono ?_
        rintro e w5 ⟨rfl, hT⟩
        have S5 := Lib.hid hT
        clear hT PL PM p0 p1 p2 p3 p4 p5 p6 p7 p8 p9
        go_wp2_with fail
        go_roundg (n0 - (i + 1))
        case measure => have := G.out; omega
        case rel => exact ⟨i + 1, by omega, rfl, by go_num, S5⟩
      · go_wp2_with fail
        refine (PM.out _).mono ?_
        rintro e w5 ⟨rfl, hT, hq⟩
        have S5 := Lib.hid hT
        rw [heap_alloc_new] at hq
        have y0 : w5.cell? ⟨wr.heap.size, 0, none⟩ = some (.bool true) := cell_of_row _ _ 0 _ _ _ hq
        clear hT hq PL PM p0 p1 p2 p3 p4 p5 p6 p7 p8 p9
        go_wp2_with fail
        go_roundg (n0 - (i + 1))
        case measure => have := G.out; omega
        case rel => exact ⟨i + 1, by omega, rfl, by go_num, S5⟩
    · have LS : Hid (∃ M M2 : List Bv, M.length ≤ 1000000 ∧ M2.length ≤ 1000000 ∧
        (∀ w1, Below wr.heap.size wr w1 → Calls Tryz.prog 8 #[.pointer (some ⟨t, 0, none⟩)] w1 fun e w' => ∃ v, e = .returned v ∧ Row kBv w' v M ∧ Below w1.heap.size w1 w' ∧ Below wr.heap.size wr w') ∧
        (∀ w1, Below wr.heap.size wr w1 → Calls Tryz.prog 9 #[.pointer (some ⟨r, 0, none⟩)] w1 fun e w' => ∃ v, e = .returned v ∧ Row kBv w' v M ∧ Below w1.heap.size w1 w' ∧ Below wr.heap.size wr w') ∧
        (∀ w1, Below wr.heap.size wr w1 → Calls Tryz.prog 8 #[.pointer (some ⟨t2, 0, none⟩)] w1 fun e w' => ∃ v, e = .returned v ∧ Row kBv w' v M2 ∧ Below w1.heap.size w1 w' ∧ Below wr.heap.size wr w') ∧
        (∀ w1, Below wr.heap.size wr w1 → Calls Tryz.prog 9 #[.pointer (some ⟨r + 1, 0, none⟩)] w1 fun e w' => ∃ v, e = .returned v ∧ Row kBv w' v M2 ∧ Below w1.heap.size w1 w' ∧ Below wr.heap.size wr w')) := Lib.hid (S.out.lists (by have := HL.out; omega))
      have FIN : Hid (∀ W, Below wr.heap.size wr W → Below w.heap.size w W) := Lib.hid (fun W h => S.out.bl.trans (h.mono S.out.bl.size))
      clear S
      obtain ⟨M, M2, _, _, hA, hB, hC, hD⟩ := LS.out
      have LA := Lib.hid hA
      have LB := Lib.hid hB
      have LC := Lib.hid hC
      have LD := Lib.hid hD
      clear hA hB hC hD LS
      go_wp2_with fail
      refine (LA.out _ (Below.refl _ _)).mono ?_
      rintro e w5 ⟨v5, rfl, hR5, hb5, hw5⟩
      have R5 := Lib.hid (And.intro hR5 hw5)
      clear hR5 hb5 hw5
      go_wp2_with fail
      refine (LB.out _ R5.out.2).mono ?_
      rintro e w6 ⟨v6, rfl, hR6, hb6, hw6⟩
      have SB := Lib.hid (sameBindings_yes v5 v6 M w6 (R5.out.1.below hb6) hR6)
      have R6 := Lib.hid hw6
      clear hR6 hb6 hw6
      go_wp2_with fail
      refine SB.out.mono ?_
      rintro e w7 ⟨rfl, hb7⟩
      have R7 := Lib.hid (R6.out.trans (hb7.mono R6.out.size))
      clear hb7 SB
      go_wp2_with fail
      refine (LC.out _ R7.out).mono ?_
      rintro e w8 ⟨v8, rfl, hR8, hb8, hw8⟩
      have R8 := Lib.hid (And.intro hR8 hw8)
      clear hR8 hb8 hw8
      go_wp2_with fail
      refine (LD.out _ R8.out.2).mono ?_
      rintro e w9 ⟨v9, rfl, hR9, hb9, hw9⟩
      have SC := Lib.hid (sameBindings_yes v8 v9 M2 w9 (R8.out.1.below hb9) hR9)
      have R9 := Lib.hid hw9
      clear hR9 hb9 hw9
      go_wp2_with fail
      refine SC.out.mono ?_
      rintro e wz ⟨rfl, hbz⟩
      have RZ := Lib.hid (FIN.out _ (R9.out.trans (hbz.mono R9.out.size)))
      clear hbz SC
      go_wp2_with fail
      go_ret
      exact ⟨rfl, RZ.out⟩
end Ac
end Go.Proofs.YthdofbjijpghfaaGreatDoor
