/-
  The document's Replay.
-/
import Derived.Test.YtoocpbpdoaplgaaDoorWtY
import Derived.Test.YtoocpbpdoaplgaaDoorWtU
import Derived.Test.YtoocpbpdoaplgaaDoorLRefUnd
namespace Go.Proofs.YtoocpbpdoaplgaaDoor
open Go.RowKit Go.Sort
namespace Wt
theorem runder_any (p q : ByteArray) (w : World) (hs : p.size ≤ 1048576) : Calls Tryd.prog 44 #[.string p, .string q] w fun e w' => e = .returned (.bool (L.underB p q)) ∧ Below w.heap.size w w' := by
  cases h : L.splitO p with
  | none => rw [(L.under_none (b := q) h).1]; exact L.refUnder_none p q w hs h
  | some ts =>
    obtain ⟨rfl, hg⟩ := L.splitO_some h
    have := L.refUnder_any ts q hg w
    rw [L.inB_under hg] at this
    exact this
theorem plK_pot (t : ByteArray) (l : List ByteArray) : ∀ k, k ≤ l.length → (plK t (l.take k)).1.length + (if (plK t (l.take k)).2 = true then 0 else 1) ≤ k + 1 := by
  intro k
  induction k with
  | zero => intro _; simp [plK]
  | succ k ih =>
    intro h
    rw [plK_succ t l k (by omega)]
    have i := ih (by omega)
    generalize plK t (l.take k) = p at *
    unfold plS
    split
    · simp only [List.length_append, List.length_singleton, if_true]; split at i <;> omega
    · split
      · rename_i q
        rw [if_neg (by rw [q.1]; simp)] at i
        simp only [List.length_append, List.length_singleton, if_true]
        omega
      · simp only [List.length_append, List.length_singleton]
        split at i
        · rename_i c; rw [if_pos c]; omega
        · rename_i c; rw [if_neg c]; omega
theorem plR_len (t : ByteArray) (l : List ByteArray) : (plR t l).length ≤ l.length + 1 := by
  have := plK_pot t l l.length (Nat.le_refl _)
  rw [List.take_length] at this
  unfold plR
  split
  · rename_i q; rw [if_pos q] at this; omega
  · rename_i q; rw [if_neg q] at this; rw [List.length_append]; simp only [List.length_singleton]; omega
theorem Ri.put {R ls : List ByteArray} (h : Ri R ls) (t : ByteArray) : Ri (plR t R) (ls ++ [t]) := by
  obtain ⟨h1, h2⟩ := plR_ok t R h.1
  exact ⟨h1, fun z => by rw [h2 z, List.mem_append, List.mem_append, h.2 z]⟩
theorem Ri.del {R ls : List ByteArray} (h : Ri R ls) (t : ByteArray) : Ri (R.filter (fun z => decide (z ≠ t))) (ls.filter (fun z => decide (z ≠ t))) :=
  ⟨h.1.filter _, fun z => by rw [List.mem_filter, List.mem_filter, h.2 z]⟩
set_option maxHeartbeats 32000000 in
set_option maxRecDepth 100000 in
theorem rreplay_any (kind : Int) (path : ByteArray) (nv lv : Value) (names : List ByteArray) (l : List Ev) (w : World) (hN : Row kT w nv names) (hL : Row kE w lv l) (he : ∀ e ∈ l, e.n.size ≤ 1048576 ∧ e.p.size ≤ 1048576) (hl : names.length ≤ 1048576 ∧ l.length ≤ 1048576) :
    Calls Tryd.prog 27 #[.int .i64 kind, .string path, nv, lv] w fun e w' => ∃ a n c F, e = .returned (.slice a n c) ∧ OwnR kT w.heap.size w' (.slice a n c) F ∧ Ri F (rpL kind path names l) ∧ Below w.heap.size w w' := by
  have RN := Lib.hid hN
  have RL := Lib.hid hL
  have SZ := Lib.hid he
  obtain ⟨na, nc, rfl, hnc, hncm⟩ := hN.len
  obtain ⟨la, lc, rfl, hlc, hlcm⟩ := hL.len
  unfold maxLen at hncm hlcm
  obtain ⟨nn, hnn⟩ : ∃ n, n = names.length := ⟨_, rfl⟩
  obtain ⟨ln, hln⟩ : ∃ n, n = l.length := ⟨_, rfl⟩
  rw [← hnn] at RN hnc
  rw [← hln] at RL hlc
  rw [← hnn, ← hln] at hl
  rw [← hnn, ← hln]
  have HN : Hid (nn = names.length ∧ ln = l.length) := Lib.hid ⟨hnn, hln⟩
  obtain ⟨hl1, hl2⟩ := hl
  clear hN hL he hnn hln
  go_enter Tryd.func27, Tryd.ntmps27
  go_wp2_with fail
  go_loopg [9, 10] nn (fun gk so si wr => ∃ (k : Nat) (a1 : Option Addr) (n1 c1 : Nat) (F : List ByteArray), k ≤ nn ∧ gk = nn - k ∧ so = .slice a1 n1 c1 ∧ si = .int .i64 k ∧ Hid (OwnR kT w.heap.size wr (.slice a1 n1 c1) F ∧ Ri F (names.take k) ∧ F.length ≤ k ∧ Below w.heap.size w wr))
  case atStart => exact ⟨0, none, 0, 0, [], Nat.zero_le _, rfl, rfl, rfl, Lib.hid ⟨OwnR.nil _ _ _, ⟨List.Pairwise.nil, fun t => Iff.rfl⟩, Nat.le_refl _, Below.refl _ _⟩⟩
  case round =>
    obtain ⟨k, a1, n1, c1, F, hk, hgk, rfl, rfl, R⟩ := hrel
    have GK := Lib.hid hgk
    clear hgk
    by_cases hlt : k < nn
    · have hlt' : (k : Int) < (nn : Int) := by omega
      have hkn : k < names.length := by rw [← HN.out.1]; exact hlt
      obtain ⟨nb, no, rfl, c0⟩ := rowT_at (RN.out.below R.out.2.2.2) k hkn
      have TK := Lib.hid (take_onez names k ⟨#[]⟩ hkn)
      obtain ⟨t, ht⟩ : ∃ t, t = names.getD k ⟨#[]⟩ := ⟨_, rfl⟩
      rw [← ht] at c0 TK
      clear ht hkn
      have PL := Lib.hid (placed_any F t (.slice a1 n1 c1) wr (R.out.1.row okT) (by have := R.out.2.2.1; omega))
      go_wp2_with fail
      refine PL.out.mono ?_
      rintro e w3 ⟨a3, n3, c3, rfl, ho, hb⟩
      have W3 : Hid (OwnR kT w.heap.size w3 (.slice a3 n3 c3) (plR t F) ∧ Ri (plR t F) (names.take (k + 1)) ∧ (plR t F).length ≤ k + 1 ∧ Below w.heap.size w w3) := Lib.hid ⟨ho.mono R.out.2.2.2.size, by rw [TK.out]; exact R.out.2.1.put t, by have := plR_len t F; have := R.out.2.2.1; omega, R.out.2.2.2.trans (hb.mono R.out.2.2.2.size)⟩
      clear ho hb PL
      go_wp2_with fail
      go_roundg (nn - (k + 1))
      case measure => have := GK.out; omega
      case rel => exact ⟨k + 1, a3, n3, c3, plR t F, by omega, rfl, rfl, by go_num, W3⟩
    · have EK : Hid (names.take k = names) := Lib.hid (List.take_of_length_le (by rw [← HN.out.1]; omega))
      rw [EK.out] at R
      have hkn : ¬ (k : Int) < (nn : Int) := by omega
      obtain ⟨w1, rfl⟩ : ∃ w1, w1 = wr := ⟨_, rfl⟩
      have hkk : k ≤ nn := hk
      go_wp2_with fail
      go_loopg [9, 11] ln (fun gj so si wr => ∃ (j : Nat) (a1 : Option Addr) (n1 c1 : Nat) (F : List ByteArray), j ≤ ln ∧ gj = ln - j ∧ so = .slice a1 n1 c1 ∧ si = .int .i64 j ∧ Hid (OwnR kT w.heap.size wr (.slice a1 n1 c1) F ∧ Ri F (rpL kind path names (l.take j)) ∧ F.length ≤ nn + j ∧ Below w.heap.size w wr))
      case atStart => exact ⟨0, a1, n1, c1, F, Nat.zero_le _, rfl, rfl, rfl, Lib.hid ⟨R.out.1, R.out.2.1, by have := R.out.2.2.1; omega, R.out.2.2.2⟩⟩
      case round =>
        clear R
        obtain ⟨j, a1, n1, c1, F, hj, hgj, rfl, rfl, R⟩ := hrel
        have GJ := Lib.hid hgj
        clear hgj
        obtain ⟨w2, rfl⟩ : ∃ w2, w2 = wr := ⟨_, rfl⟩
        by_cases hjt : j < ln
        · have hjt' : (j : Int) < (ln : Int) := by omega
          have hjl : j < l.length := by rw [← HN.out.2]; exact hjt
          obtain ⟨pb, po, rfl, c0, c1', c2, c3, c4⟩ := row_at (RL.out.below R.out.2.2.2) j hjl
          have RS := Lib.hid (rpL_succ kind path names l j hjl)
          have ES := Lib.hid (SZ.out _ (getD_in (d := Ev.z) hjl))
          have CB : Hid (∀ W : World, Below w2.heap.size w2 W → ∀ i y, (kE.c (l.getD j Ev.z))[i]? = some y → W.cell? ⟨pb, po + j * 5 + i, none⟩ = some y) := Lib.hid fun W hb i y hy => by
            obtain ⟨b', off', eb, hc⟩ := (RL.out.below (R.out.2.2.2.trans (hb.mono R.out.2.2.2.size))).at j hjl
            simp only [Option.some.injEq, Addr.mk.injEq, and_true] at eb
            obtain ⟨rfl, rfl⟩ := eb
            exact hc i y hy
          obtain ⟨y, hy⟩ : ∃ y, y = l.getD j Ev.z := ⟨_, rfl⟩
          rw [← hy] at c0 c1' c2 c3 c4 RS ES CB
          clear hy hjl
          obtain ⟨yv, yk, yg, yp, yn⟩ := y
          simp only at c0 c1' c2 c3 c4 ES
          obtain ⟨ls, hls⟩ : ∃ ls, ls = rpL kind path names (l.take j) := ⟨_, rfl⟩
          rw [← hls] at R RS
          clear hls
          have UA := Lib.hid (runder_any yp path w2 ES.out.2)
          by_cases hkd : yk = kind
          · subst hkd
            go_wp2_with fail
            refine UA.out.mono ?_
            rintro e w3 ⟨rfl, hb3⟩
            have W3 : Hid (OwnR kT w.heap.size w3 (.slice a1 n1 c1) F ∧ Ri F ls ∧ F.length ≤ nn + j ∧ Below w.heap.size w w3 ∧ Below w2.heap.size w2 w3) := Lib.hid ⟨R.out.1.below hb3, R.out.2.1, R.out.2.2.1, R.out.2.2.2.trans (hb3.mono R.out.2.2.2.size), hb3⟩
            have y0 : w3.cell? ⟨pb, po + j * 5, none⟩ = some (.int .i64 yv) := CB.out w3 hb3 0 _ rfl
            have y1 : w3.cell? ⟨pb, po + j * 5 + 1, none⟩ = some (.int .i64 yk) := CB.out w3 hb3 1 _ rfl
            have y2 : w3.cell? ⟨pb, po + j * 5 + 2, none⟩ = some (.bool yg) := CB.out w3 hb3 2 _ rfl
            have y3 : w3.cell? ⟨pb, po + j * 5 + 3, none⟩ = some (.string yp) := CB.out w3 hb3 3 _ rfl
            have y4 : w3.cell? ⟨pb, po + j * 5 + 4, none⟩ = some (.string yn) := CB.out w3 hb3 4 _ rfl
            clear hb3 UA c0 c1' c2 c3 c4 R
            by_cases hu : L.underB yp path = true
            · rw [hu]
              have US := Lib.hid (under_size hu)
              have TX : Hid (∀ W : World, Calls Tryd.prog 45 #[.agg #[.int .i64 yv, .int .i64 yk, .bool yg, .string yp, .string yn]] W fun e w' => e = .returned (.string (tx ⟨yv, yk, yg, yp, yn⟩)) ∧ Below W.heap.size W w') := Lib.hid fun W => rtext_any ⟨yv, yk, yg, yp, yn⟩ W (by have := US.out; simp only; omega) (by have := ES.out.1; simp only; omega)
              obtain ⟨tt, htt⟩ : ∃ tt, tt = tx ⟨yv, yk, yg, yp, yn⟩ := ⟨_, rfl⟩
              have RZ : Hid (rpL yk path names (l.take (j + 1)) = if yg = true then ls.filter (fun t => decide (t ≠ tt)) else ls ++ [tt]) := Lib.hid (by rw [RS.out]; unfold rpS; rw [if_pos ⟨rfl, hu⟩, htt])
              rw [← htt] at TX
              clear htt hu
              cases yg with
              | false =>
                have RZ2 := Lib.hid (RZ.out.trans (if_neg (by simp)))
                go_wp2_with fail
                refine (TX.out w3).mono ?_
                rintro e w4 ⟨rfl, hb4⟩
                have W4 : Hid (OwnR kT w.heap.size w4 (.slice a1 n1 c1) F ∧ Below w.heap.size w w4) := Lib.hid ⟨W3.out.1.below hb4, W3.out.2.2.2.1.trans (hb4.mono W3.out.2.2.2.1.size)⟩
                have PL := Lib.hid (placed_any F tt (.slice a1 n1 c1) w4 (W4.out.1.row okT) (by have := W3.out.2.2.1; omega))
                clear hb4
                go_wp2_with fail
                refine PL.out.mono ?_
                rintro e w5 ⟨a5, n5, c5, rfl, ho, hb⟩
                have W5 : Hid (OwnR kT w.heap.size w5 (.slice a5 n5 c5) (plR tt F) ∧ Ri (plR tt F) (rpL yk path names (l.take (j + 1))) ∧ (plR tt F).length ≤ nn + (j + 1) ∧ Below w.heap.size w w5) := Lib.hid ⟨ho.mono W4.out.2.size, by rw [RZ2.out]; exact W3.out.2.1.put tt, by have := plR_len tt F; have := W3.out.2.2.1; omega, W4.out.2.trans (hb.mono W4.out.2.size)⟩
                clear ho hb PL
                go_wp2_with fail
                go_roundg (ln - (j + 1))
                case measure => have := GJ.out; omega
                case rel => exact ⟨j + 1, a5, n5, c5, plR tt F, by omega, rfl, rfl, by go_num, W5⟩
              | true =>
                have RZ2 := Lib.hid (RZ.out.trans (if_pos rfl))
                have N1 : Hid (n1 = F.length) := Lib.hid (by obtain ⟨q1, q2, e⟩ := W3.out.1.slice; simp only [Value.slice.injEq] at e; exact e.2.1)
                have n1b : n1 ≤ 2097152 := by have := N1.out; have := W3.out.2.2.1; omega
                go_wp2_with fail
                go_loopg [12, 13] n1 (fun gi sr si wr => ∃ (i : Nat) (a5 : Option Addr) (n5 c5 : Nat), i ≤ n1 ∧ gi = n1 - i ∧ sr = .slice a5 n5 c5 ∧ si = .int .i64 i ∧ Hid (OwnR kT w3.heap.size wr (.slice a5 n5 c5) ((F.take i).filter (fun t => decide (t ≠ tt))) ∧ Below w3.heap.size w3 wr))
                case atStart => exact ⟨0, none, 0, 0, Nat.zero_le _, rfl, rfl, rfl, Lib.hid ⟨OwnR.nil _ _ _, Below.refl _ _⟩⟩
                case round =>
                  obtain ⟨i, a5, n5, c5, hi, hgi, rfl, rfl, I⟩ := hrel
                  have GI := Lib.hid hgi
                  clear hgi y0 y1 y2 y3 y4
                  by_cases hit : i < n1
                  · have hit' : (i : Int) < (n1 : Int) := by omega
                    have hiF : i < F.length := by rw [← N1.out]; exact hit
                    obtain ⟨ob, oo, rfl, z0⟩ := rowT_at ((W3.out.1.row okT).below I.out.2) i hiF
                    have FT := Lib.hid (filterT_take (fun t => decide (t ≠ tt)) F i hiF)
                    have LZ : Hid ((((F.take i).filter (fun t => decide (t ≠ tt))).length + 1) * kT.b ≤ 140737488355328) := Lib.hid (by
                      have := filterT_le (fun t => decide (t ≠ tt)) F i
                      show (_ + 1) * 16 ≤ _
                      omega)
                    have ZB : Hid (∀ W : World, Below wr.heap.size wr W → W.cell? ⟨ob, oo + i, none⟩ = some (.string (F.getD i ⟨#[]⟩))) := Lib.hid fun W hb => by
                      rw [hb.cell (block_lt_of_cell z0)]; exact z0
                    have CW : Hid (∀ W : World, Below wr.heap.size wr W → ∀ i' y, (kE.c ⟨yv, yk, true, yp, yn⟩)[i']? = some y → W.cell? ⟨pb, po + j * 5 + i', none⟩ = some y) := Lib.hid fun W hb => CB.out W (W3.out.2.2.2.2.trans ((I.out.2.trans (hb.mono I.out.2.size)).mono W3.out.2.2.2.2.size))
                    obtain ⟨z, hz⟩ : ∃ z, z = F.getD i ⟨#[]⟩ := ⟨_, rfl⟩
                    rw [← hz] at z0 FT ZB
                    clear hz hiF
                    have BDr : Hid (Below wr.heap.size wr wr.drew) := Lib.hid (below_drawn wr 1)
                    have d5 : wr.drew.cell? ⟨ob, oo + i, none⟩ = some (.string z) := ZB.out _ BDr.out
                    have d0 : wr.drew.cell? ⟨pb, po + j * 5, none⟩ = some (.int .i64 yv) := CW.out _ BDr.out 0 _ rfl
                    have d1 : wr.drew.cell? ⟨pb, po + j * 5 + 1, none⟩ = some (.int .i64 yk) := CW.out _ BDr.out 1 _ rfl
                    have d2 : wr.drew.cell? ⟨pb, po + j * 5 + 2, none⟩ = some (.bool true) := CW.out _ BDr.out 2 _ rfl
                    have d3 : wr.drew.cell? ⟨pb, po + j * 5 + 3, none⟩ = some (.string yp) := CW.out _ BDr.out 3 _ rfl
                    have d4 : wr.drew.cell? ⟨pb, po + j * 5 + 4, none⟩ = some (.string yn) := CW.out _ BDr.out 4 _ rfl
                    clear z0
                    have SL := same_list z tt
                    by_cases hze : z = tt
                    · have F2 := Lib.hid (FT.out.trans (by rw [if_neg (by simp [hze]), List.append_nil]))
                      rw [decide_eq_true hze] at SL
                      clear hze
                      go_wp2_with fail
                      go_region_held3 (fun W : World => W.cell? ⟨ob, oo + i, none⟩ = some (.string z) ∧ W.cell? ⟨pb, po + j * 5, none⟩ = some (.int .i64 yv) ∧ W.cell? ⟨pb, po + j * 5 + 1, none⟩ = some (.int .i64 yk) ∧ W.cell? ⟨pb, po + j * 5 + 2, none⟩ = some (.bool true) ∧ W.cell? ⟨pb, po + j * 5 + 3, none⟩ = some (.string yp) ∧ W.cell? ⟨pb, po + j * 5 + 4, none⟩ = some (.string yn)) (first | exact ⟨by assumption, by assumption, by assumption, by assumption, by assumption, by assumption⟩ | go_keep) (
                         (go_at_call 45
                          refine (TX.out _).mono ?_
                          rintro e x6 ⟨rfl, hb6⟩
                          have B6 : Hid (Below wr.heap.size wr x6) := Lib.hid (BDr.out.trans hb6)
                          have f5 : x6.cell? ⟨ob, oo + i, none⟩ = some (.string z) := ZB.out _ B6.out
                          have f0 : x6.cell? ⟨pb, po + j * 5, none⟩ = some (.int .i64 yv) := CW.out _ B6.out 0 _ rfl
                          have f1 : x6.cell? ⟨pb, po + j * 5 + 1, none⟩ = some (.int .i64 yk) := CW.out _ B6.out 1 _ rfl
                          have f2 : x6.cell? ⟨pb, po + j * 5 + 2, none⟩ = some (.bool true) := CW.out _ B6.out 2 _ rfl
                          have f3 : x6.cell? ⟨pb, po + j * 5 + 3, none⟩ = some (.string yp) := CW.out _ B6.out 3 _ rfl
                          have f4 : x6.cell? ⟨pb, po + j * 5 + 4, none⟩ = some (.string yn) := CW.out _ B6.out 4 _ rfl
                          clear hb6))
                      have W6 : Hid (OwnR kT w3.heap.size x6 (.slice a5 n5 c5) ((F.take i).filter (fun t => decide (t ≠ tt))) ∧ Below w3.heap.size w3 x6) := Lib.hid ⟨I.out.1.below B6.out, I.out.2.trans (B6.out.mono I.out.2.size)⟩
                      clear d0 d1 d2 d3 d4 d5 f0 f1 f2 f3 f4
                      go_wp2_with fail
                      go_roundg (n1 - (i + 1))
                      case measure => have := GI.out; omega
                      case rel => exact ⟨i + 1, a5, n5, c5, by omega, rfl, rfl, by go_num, Lib.hid ⟨by rw [F2.out]; exact W6.out.1, W6.out.2⟩⟩
                    · have F2 := Lib.hid (FT.out.trans (by rw [if_pos (by simp [hze])]))
                      rw [decide_eq_false hze] at SL
                      clear hze
                      go_wp2_with fail
                      go_region_held3 (fun W : World => W.cell? ⟨ob, oo + i, none⟩ = some (.string z) ∧ W.cell? ⟨pb, po + j * 5, none⟩ = some (.int .i64 yv) ∧ W.cell? ⟨pb, po + j * 5 + 1, none⟩ = some (.int .i64 yk) ∧ W.cell? ⟨pb, po + j * 5 + 2, none⟩ = some (.bool true) ∧ W.cell? ⟨pb, po + j * 5 + 3, none⟩ = some (.string yp) ∧ W.cell? ⟨pb, po + j * 5 + 4, none⟩ = some (.string yn)) (first | exact ⟨by assumption, by assumption, by assumption, by assumption, by assumption, by assumption⟩ | go_keep) (
                         (go_at_call 45
                          refine (TX.out _).mono ?_
                          rintro e x6 ⟨rfl, hb6⟩
                          have B6 : Hid (Below wr.heap.size wr x6) := Lib.hid (BDr.out.trans hb6)
                          have f5 : x6.cell? ⟨ob, oo + i, none⟩ = some (.string z) := ZB.out _ B6.out
                          have f0 : x6.cell? ⟨pb, po + j * 5, none⟩ = some (.int .i64 yv) := CW.out _ B6.out 0 _ rfl
                          have f1 : x6.cell? ⟨pb, po + j * 5 + 1, none⟩ = some (.int .i64 yk) := CW.out _ B6.out 1 _ rfl
                          have f2 : x6.cell? ⟨pb, po + j * 5 + 2, none⟩ = some (.bool true) := CW.out _ B6.out 2 _ rfl
                          have f3 : x6.cell? ⟨pb, po + j * 5 + 3, none⟩ = some (.string yp) := CW.out _ B6.out 3 _ rfl
                          have f4 : x6.cell? ⟨pb, po + j * 5 + 4, none⟩ = some (.string yn) := CW.out _ B6.out 4 _ rfl
                          clear hb6))
                      have W6 : Hid (OwnR kT w3.heap.size x6 (.slice a5 n5 c5) ((F.take i).filter (fun t => decide (t ≠ tt))) ∧ Below w3.heap.size w3 x6) := Lib.hid ⟨I.out.1.below B6.out, I.out.2.trans (B6.out.mono I.out.2.size)⟩
                      clear d0 d1 d2 d3 d4 d5 f0 f1 f2 f3 f4
                      go_wp2_with (at_builtin; refine app_rowB okT (gg := x6.heap.size) rfl _ _ rfl rfl W6.out.1 W6.out.2.size z rfl rfl rfl LZ.out ?_; intro v7 w7 h7 g7)
                      obtain ⟨n7, a7, c7, rfl⟩ : ∃ n1 a1 c1, v7 = .slice a1 n1 c1 := by (obtain ⟨a', c', e'⟩ := h7.slice; exact ⟨_, a', c', e'⟩)
                      have W7 : Hid (OwnR kT w3.heap.size w7 (.slice a7 n7 c7) ((F.take (i + 1)).filter (fun t => decide (t ≠ tt))) ∧ Below w3.heap.size w3 w7) := Lib.hid ⟨by rw [F2.out]; exact h7, W6.out.2.grown g7 W6.out.2.size (fun j hj => (W6.out.1.lt j hj).1)⟩
                      clear h7 g7
                      go_wp2_with fail
                      go_roundg (n1 - (i + 1))
                      case measure => have := GI.out; omega
                      case rel => exact ⟨i + 1, a7, n7, c7, by omega, rfl, rfl, by go_num, W7⟩
                  · have EI : Hid (F.take i = F) := Lib.hid (List.take_of_length_le (by rw [← N1.out]; omega))
                    rw [EI.out] at I
                    have hin : ¬ (i : Int) < (n1 : Int) := by omega
                    have W8 : Hid (OwnR kT w.heap.size wr (.slice a5 n5 c5) (F.filter (fun t => decide (t ≠ tt))) ∧ Ri (F.filter (fun t => decide (t ≠ tt))) (rpL yk path names (l.take (j + 1))) ∧ (F.filter (fun t => decide (t ≠ tt))).length ≤ nn + (j + 1) ∧ Below w.heap.size w wr) := Lib.hid ⟨I.out.1.mono W3.out.2.2.2.1.size, by rw [RZ2.out]; exact W3.out.2.1.del tt, by have := List.length_filter_le (fun t => decide (t ≠ tt)) F; have := W3.out.2.2.1; omega, W3.out.2.2.2.1.trans (I.out.2.mono W3.out.2.2.2.1.size)⟩
                    go_wp2_with fail
                    go_roundg (ln - (j + 1))
                    case measure => have := GJ.out; omega
                    case rel => exact ⟨j + 1, a5, n5, c5, _, by omega, rfl, rfl, by go_num, W8⟩
            · have hu' : L.underB yp path = false := by simpa using hu
              rw [hu']
              have RZ : Hid (rpL yk path names (l.take (j + 1)) = ls) := Lib.hid (by rw [RS.out]; unfold rpS; rw [if_neg (fun q => hu q.2)])
              go_wp2_with fail
              go_roundg (ln - (j + 1))
              case measure => have := GJ.out; omega
              case rel => exact ⟨j + 1, a1, n1, c1, F, by omega, rfl, rfl, by go_num, Lib.hid ⟨W3.out.1, by rw [RZ.out]; exact W3.out.2.1, by have := W3.out.2.2.1; omega, W3.out.2.2.2.1⟩⟩
          · have gk' : (yk == kind) = false := by rw [beq_eq_false_iff_ne]; exact hkd
            have RZ : Hid (rpL kind path names (l.take (j + 1)) = ls) := Lib.hid (by rw [RS.out]; unfold rpS; rw [if_neg (fun q => hkd q.1)])
            go_wp2_with fail
            go_roundg (ln - (j + 1))
            case measure => have := GJ.out; omega
            case rel => exact ⟨j + 1, a1, n1, c1, F, by omega, rfl, rfl, by go_num, Lib.hid ⟨R.out.1, by rw [RZ.out]; exact R.out.2.1, by have := R.out.2.2.1; omega, R.out.2.2.2⟩⟩
        · have EJ : Hid (l.take j = l) := Lib.hid (List.take_of_length_le (by rw [← HN.out.2]; omega))
          rw [EJ.out] at R
          have hjn : ¬ (j : Int) < (ln : Int) := by omega
          go_wp2_with fail
          go_ret
          first | exact ⟨_, _, _, F, rfl, R.out.1, R.out.2.1, R.out.2.2.2⟩ | exact ⟨_, _, _, rfl, F, R.out.1, R.out.2.1, R.out.2.2.2⟩ | exact ⟨_, _, _, rfl, ⟨F, R.out.1, R.out.2.1⟩, R.out.2.2.2⟩
end Wt
end Go.Proofs.YtoocpbpdoaplgaaDoor
