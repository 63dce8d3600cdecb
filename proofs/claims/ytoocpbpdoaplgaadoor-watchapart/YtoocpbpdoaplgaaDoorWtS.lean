/-
  Replay.
-/
import Derived.Test.YtoocpbpdoaplgaaDoorWtR
import Derived.Maps.OwnIn
namespace Go.Proofs.YtoocpbpdoaplgaaDoor
open Go.RowKit Go.Maps
namespace Wt
/-- The set that Replay makes: its map at b. -/
structure Mp (w : World) (b n : Nat) (ls : List ByteArray) : Prop where
  m : ∃ D, w.ownsMap Tryd.prog 9 unitElem b n D ∧ Seen D ls
theorem Mp.same {w w' : World} {b n : Nat} {ls : List ByteArray} (h : Mp w b n ls) (e : w'.heap[b]? = w.heap[b]?) : Mp w' b n ls := by
  obtain ⟨D, ⟨es, clock, hb, F, hs, hD⟩, hS⟩ := h.m
  exact ⟨D, ⟨es, clock, e.trans hb, F, hs, hD⟩, hS⟩
theorem Mp.lt {w : World} {b n : Nat} {ls : List ByteArray} (h : Mp w b n ls) : b < w.heap.size := by
  obtain ⟨D, h1, _⟩ := h.m; exact h1.lt
theorem Mp.below {w w' : World} {b n : Nat} {ls : List ByteArray} (h : Mp w b n ls) (hb : Below w.heap.size w w') : Mp w' b n ls := h.same (hb.block b h.lt)
theorem Mp.more {w : World} {b n n' : Nat} {ls : List ByteArray} (h : Mp w b n ls) (hn : n ≤ n') : Mp w b n' ls := by
  obtain ⟨D, h1, h2⟩ := h.m; exact ⟨D, h1.mono hn, h2⟩
theorem under_size {p q : ByteArray} (h : L.underB p q = true) : p.size ≤ 64 := by
  cases hs : L.splitO p with
  | none => rw [(L.under_none (b := q) hs).1] at h; cases h
  | some ts =>
    obtain ⟨e1, hg⟩ := L.splitO_some hs
    rw [e1, L.pth_size]
    exact hg.2.2
theorem tx_size (e : Ev) : (tx e).size = e.p.size + 1 + e.n.size := by
  unfold tx; rw [ByteArray.size_append, ByteArray.size_append]; rfl
theorem key_of (t : ByteArray) (h : t.size ≤ maxLen) : keyOf Tryd.prog 9 (.string t) = some (.string t.data.toList) := by
  exact WideMaps.keyOf_string_mk (P := Tryd.prog) Tryd.underlying9 h
set_option maxHeartbeats 16000000 in
set_option maxRecDepth 100000 in
theorem replay_any (kind : Int) (path : ByteArray) (nv lv : Value) (names : List ByteArray) (l : List Ev) (w : World) (hm : L.HasM w) (hN : Row kT w nv names) (hL : Row kE w lv l) (hs : ∀ t ∈ names, t.size ≤ 281474976710656) (he : ∀ e ∈ l, e.n.size ≤ 140737488355328) (hl : (names.length + l.length) * 16 ≤ 140737488355328) :
    Calls Tryd.prog 21 #[.int .i64 kind, .string path, nv, lv] w fun e w' => ∃ a n c F, e = .returned (.slice a n c) ∧ OwnR kT w.heap.size w' (.slice a n c) F ∧ Ri F (rpL kind path names l) ∧ Below w.heap.size w w' := by
  have M0 := Lib.hid hm
  have RN := Lib.hid hN
  have RL := Lib.hid hL
  have SZ : Hid ((∀ t ∈ names, t.size ≤ 281474976710656) ∧ (∀ e ∈ l, e.n.size ≤ 140737488355328) ∧ (names.length + l.length) * 16 ≤ 140737488355328) := Lib.hid ⟨hs, he, hl⟩
  obtain ⟨na, nc, rfl, hnc, hncm⟩ := hN.len
  obtain ⟨la, lc, rfl, hlc, hlcm⟩ := hL.len
  unfold maxLen at hncm hlcm
  obtain ⟨nn, hnn⟩ : ∃ n, n = names.length := ⟨_, rfl⟩
  obtain ⟨ln, hln⟩ : ∃ n, n = l.length := ⟨_, rfl⟩
  rw [← hnn] at RN hnc
  rw [← hln] at RL hlc
  rw [← hnn, ← hln]
  have HN : Hid (nn = names.length ∧ ln = l.length ∧ (nn + ln) * 16 ≤ 140737488355328) := Lib.hid ⟨hnn, hln, by rw [hnn, hln]; exact hl⟩
  clear hm hN hL hs he hl hnn hln
  have hmm := make_seen
  obtain ⟨b, hb⟩ : ∃ b, b = w.heap.size := ⟨_, rfl⟩
  have HB : Hid (b = w.heap.size) := Lib.hid hb
  clear hb
  go_enter Tryd.func21, Tryd.ntmps21
  go_wp2_with fail
  clear hmm
  rw [← HB.out]
  go_loopg [17] nn (fun gk si wr => ∃ k : Nat, k ≤ nn ∧ gk = nn - k ∧ si = .int .i64 k ∧ Hid (Mp wr b k (names.take k) ∧ Below w.heap.size w wr))
  case atStart => exact ⟨0, Nat.zero_le _, rfl, rfl, Lib.hid ⟨⟨_, by rw [HB.out]; exact World.ownsMap_made _ _ _ _, seen_none⟩, (Below.refl _ _).alloc (Nat.le_refl _) _⟩⟩
  case round =>
    obtain ⟨k, hk, hgk, rfl, R⟩ := hrel
    have GK := Lib.hid hgk
    clear hgk
    by_cases hlt : k < nn
    · have hlt' : (k : Int) < (nn : Int) := by omega
      have hkn : k < names.length := by rw [← HN.out.1]; exact hlt
      obtain ⟨nb, no, rfl, c0⟩ := rowT_at (RN.out.below R.out.2) k hkn
      have TK := Lib.hid (take_onez names k ⟨#[]⟩ hkn)
      have TS := Lib.hid (SZ.out.1 _ (getD_in (d := ⟨#[]⟩) hkn))
      obtain ⟨t, ht⟩ : ∃ t, t = names.getD k ⟨#[]⟩ := ⟨_, rfl⟩
      rw [← ht] at c0 TK TS
      clear ht hkn
      obtain ⟨D, hD, hS⟩ := R.out.1.m
      have KY := Lib.hid (key_of t (by have := TS.out; unfold maxLen; omega))
      have HD := Lib.hid hD
      have HS := Lib.hid hS
      have kmax : k < maxLen := by unfold maxLen; omega
      clear hD hS
      go_wp2_with (first
        | (refine wpList_mapUpdate_own wr rfl _ _ _ 74 rfl 9 75 lawS Tryd.underlying74 unitElem b k D rfl HD.out kmax _ _ _ rfl rfl KY.out _ _ rfl ?_; intro w2 h2 g2
           have F2 : Hid (Mp w2 b (k + 1) (names.take (k + 1)) ∧ Below w.heap.size w w2) := Lib.hid ⟨⟨_, h2, by rw [TK.out]; exact HS.out.put t _⟩, R.out.2.grown g2 R.out.2.size (fun j hj => by injection hj with hj; rw [← hj, HB.out]; exact Nat.le_refl _)⟩
           clear h2 g2))
      go_roundg (nn - (k + 1))
      case measure => have := GK.out; omega
      case rel => exact ⟨k + 1, by omega, rfl, by go_num, F2⟩
    · have EK : Hid (names.take k = names ∧ k = nn) := Lib.hid ⟨List.take_of_length_le (by rw [← HN.out.1]; omega), by omega⟩
      obtain ⟨w1, rfl⟩ : ∃ w1, w1 = wr := ⟨_, rfl⟩
      have W1 : Hid (Mp w1 b nn names ∧ Below w.heap.size w w1) := Lib.hid (by have h := R.out; rw [EK.out.1, EK.out.2] at h; exact h)
      clear R
      go_wp2_with fail
      go_loopg [27] ln (fun gk si wr => ∃ j : Nat, j ≤ ln ∧ gk = ln - j ∧ si = .int .i64 j ∧ Hid (Mp wr b (nn + j) (rpL kind path names (l.take j)) ∧ Below w.heap.size w wr))
      case atStart => exact ⟨0, Nat.zero_le _, rfl, rfl, Lib.hid ⟨W1.out.1, W1.out.2⟩⟩
      case round =>
        obtain ⟨j, hj, hgj, rfl, R⟩ := hrel
        have GJ := Lib.hid hgj
        clear hgj
        by_cases hjt : j < ln
        · have hjt' : (j : Int) < (ln : Int) := by omega
          have hjl : j < l.length := by rw [← HN.out.2.1]; exact hjt
          obtain ⟨pb, po, rfl, c0, c1, c2, c3, c4⟩ := row_at (RL.out.below R.out.2) j hjl
          have RS := Lib.hid (rpL_succ kind path names l j hjl)
          have ES := Lib.hid (SZ.out.2.1 _ (getD_in (d := Ev.z) hjl))
          obtain ⟨y, hy⟩ : ∃ y, y = l.getD j Ev.z := ⟨_, rfl⟩
          rw [← hy] at c0 c1 c2 c3 c4 RS ES
          clear hy hjl
          obtain ⟨yv, yk, yg, yp, yn⟩ := y
          simp only at c0 c1 c2 c3 c4 ES
          obtain ⟨ls, hls⟩ : ∃ ls, ls = rpL kind path names (l.take j) := ⟨_, rfl⟩
          rw [← hls] at R RS
          clear hls
          obtain ⟨X, hX⟩ : ∃ X, X = wr.alloc (.cells #[.int .i64 yv, .int .i64 yk, .bool yg, .string yp, .string yn] 33) := ⟨_, rfl⟩
          have AX : Hid (Below w.heap.size w X ∧ L.HasM X ∧ Mp X b (nn + j) ls) := Lib.hid (by
            have hb : Below wr.heap.size wr X := by rw [hX]; exact (Below.refl _ wr).alloc (Nat.le_refl _) _
            have hb2 := R.out.2.trans (hb.mono R.out.2.size)
            exact ⟨hb2, M0.out.below hb2, R.out.1.below hb⟩)
          have CX : Hid (∀ W : World, Below X.heap.size X W → ∀ i y, #[Value.int .i64 yv, .int .i64 yk, .bool yg, .string yp, .string yn][i]? = some y → W.cell? ⟨wr.heap.size, i, none⟩ = some y) := Lib.hid fun W hb i y h => by
            have h1 : X.cell? ⟨wr.heap.size, i, none⟩ = some y := by rw [hX, World.cell?_alloc_new]; exact h
            rw [hb.cell (block_lt_of_cell h1)]; exact h1
          have x1 := CX.out X (Below.refl _ _) 1 _ rfl
          have x3 := CX.out X (Below.refl _ _) 3 _ rfl
          have UA := Lib.hid (L.under_any yp path X AX.out.2.1)
          have hX' := hX.symm
          clear hX R
          by_cases hk : yk = kind
          · subst hk
            go_wp2_with fail
            refine UA.out.mono ?_
            rintro e w3 ⟨rfl, hb3⟩
            have W3 : Hid (Below w.heap.size w w3 ∧ Mp w3 b (nn + j) ls) := Lib.hid ⟨AX.out.1.trans (hb3.mono AX.out.1.size), AX.out.2.2.below hb3⟩
            have y0 := CX.out w3 hb3 0 _ rfl
            have y1 := CX.out w3 hb3 1 _ rfl
            have y2 := CX.out w3 hb3 2 _ rfl
            have y3 := CX.out w3 hb3 3 _ rfl
            have y4 := CX.out w3 hb3 4 _ rfl
            clear hb3 UA CX AX x1 x3 c0 c1 c2 c3 c4 hX'
            by_cases hu : L.underB yp path = true
            · rw [hu]
              have US := Lib.hid (under_size hu)
              have TX : Hid (Calls Tryd.prog 40 #[.agg #[.int .i64 yv, .int .i64 yk, .bool yg, .string yp, .string yn]] w3 fun e w' => e = .returned (.string (tx ⟨yv, yk, yg, yp, yn⟩)) ∧ Below w3.heap.size w3 w') := Lib.hid (text_any ⟨yv, yk, yg, yp, yn⟩ w3 (by have := US.out; simp only; omega) ES.out)
              have KY := Lib.hid (key_of (tx ⟨yv, yk, yg, yp, yn⟩) (by rw [tx_size]; have := US.out; have := ES.out; unfold maxLen; simp only; omega))
              obtain ⟨tt, htt⟩ : ∃ tt, tt = tx ⟨yv, yk, yg, yp, yn⟩ := ⟨_, rfl⟩
              have RZ : Hid (rpL yk path names (l.take (j + 1)) = if yg = true then ls.filter (fun t => decide (t ≠ tt)) else ls ++ [tt]) := Lib.hid (by rw [RS.out]; unfold rpS; rw [if_pos ⟨rfl, hu⟩, htt])
              rw [← htt] at TX KY
              clear htt
              cases yg with
              | true =>
                have RZ2 := Lib.hid (RZ.out.trans (if_pos rfl))
                go_wp2_with fail
                refine TX.out.mono ?_
                rintro e w4 ⟨rfl, hb4⟩
                have W4 : Hid (Below w.heap.size w w4 ∧ Mp w4 b (nn + j) ls) := Lib.hid ⟨W3.out.1.trans (hb4.mono W3.out.1.size), W3.out.2.below hb4⟩
                clear hb4 TX W3
                obtain ⟨D, hD, hS⟩ := W4.out.2.m
                have HD := Lib.hid hD
                have HS := Lib.hid hS
                clear hD hS
                go_wp2_with (first
                  | (at_delete; refine wpList_delete_own _ rfl _ _ 74 9 rfl 75 lawS Tryd.underlying74 unitElem b (nn + j) D rfl HD.out _ _ rfl KY.out ?_; intro w5 h5 g5
                     have F5 : Hid (Mp w5 b (nn + (j + 1)) (rpL yk path names (l.take (j + 1))) ∧ Below w.heap.size w w5) := Lib.hid ⟨Mp.more (n := nn + j) ⟨_, h5, by rw [RZ2.out]; exact HS.out.del tt⟩ (by omega), W4.out.1.grown g5.grown W4.out.1.size (fun j hj => by injection hj with hj; rw [← hj, HB.out]; exact Nat.le_refl _)⟩
                     clear h5 g5))
                go_roundg (ln - (j + 1))
                case measure => have := GJ.out; omega
                case rel => exact ⟨j + 1, by omega, rfl, by go_num, F5⟩
              | false =>
                have RZ2 := Lib.hid (RZ.out.trans (if_neg (by simp)))
                go_wp2_with fail
                refine TX.out.mono ?_
                rintro e w4 ⟨rfl, hb4⟩
                have W4 : Hid (Below w.heap.size w w4 ∧ Mp w4 b (nn + j) ls) := Lib.hid ⟨W3.out.1.trans (hb4.mono W3.out.1.size), W3.out.2.below hb4⟩
                clear hb4 TX W3
                obtain ⟨D, hD, hS⟩ := W4.out.2.m
                have HD := Lib.hid hD
                have HS := Lib.hid hS
                have kmax : nn + j < maxLen := by have := HN.out.2.2; unfold maxLen; omega
                clear hD hS
                go_wp2_with (first
                  | (refine wpList_mapUpdate_own w4 rfl _ _ _ 74 rfl 9 75 lawS Tryd.underlying74 unitElem b (nn + j) D rfl HD.out kmax _ _ _ rfl rfl KY.out _ _ rfl ?_; intro w5 h5 g5
                     have F5 : Hid (Mp w5 b (nn + (j + 1)) (rpL yk path names (l.take (j + 1))) ∧ Below w.heap.size w w5) := Lib.hid ⟨⟨_, h5, by rw [RZ2.out]; exact HS.out.put tt _⟩, W4.out.1.grown g5 W4.out.1.size (fun j hj => by injection hj with hj; rw [← hj, HB.out]; exact Nat.le_refl _)⟩
                     clear h5 g5))
                go_roundg (ln - (j + 1))
                case measure => have := GJ.out; omega
                case rel => exact ⟨j + 1, by omega, rfl, by go_num, F5⟩
            · have hu' : L.underB yp path = false := by simpa using hu
              rw [hu']
              have RZ : Hid (rpL yk path names (l.take (j + 1)) = ls) := Lib.hid (by rw [RS.out]; unfold rpS; rw [if_neg (fun q => hu q.2)])
              go_wp2_with fail
              go_roundg (ln - (j + 1))
              case measure => have := GJ.out; omega
              case rel => exact ⟨j + 1, by omega, rfl, by go_num, Lib.hid ⟨by rw [RZ.out]; exact W3.out.2.more (by omega), W3.out.1⟩⟩
          · have gk' : (yk == kind) = false := by rw [beq_eq_false_iff_ne]; exact hk
            have RZ : Hid (rpL kind path names (l.take (j + 1)) = ls) := Lib.hid (by rw [RS.out]; unfold rpS; rw [if_neg (fun q => hk q.1)])
            go_wp2_with fail
            go_roundg (ln - (j + 1))
            case measure => have := GJ.out; omega
            case rel => exact ⟨j + 1, by omega, rfl, by go_num, Lib.hid ⟨by rw [RZ.out]; exact AX.out.2.2.more (by omega), AX.out.1⟩⟩
        · have EJ : Hid (l.take j = l ∧ j = ln) := Lib.hid ⟨List.take_of_length_le (by rw [← HN.out.2.1]; omega), by omega⟩
          obtain ⟨D, hD, hS⟩ := R.out.1.m
          rw [EJ.out.1] at hS
          rw [EJ.out.2] at hD
          have KA := Lib.hid (keys_any (some b) wr)
          have SO := Lib.hid (sorted_any b (nn + ln) D _ wr hD hS HN.out.2.2)
          have BR := Lib.hid R.out.2
          clear hD hS R
          go_wp2_with fail
          refine KA.out.mono ?_
          rintro e w3 ⟨rfl, rfl⟩
          go_wp2_with fail
          refine SO.out.mono ?_
          rintro e w4 ⟨v4, F, rfl, ho, hri, hb4⟩
          obtain ⟨n4, a4, c4, rfl⟩ : ∃ n1 a1 c1, v4 = .slice a1 n1 c1 := by (obtain ⟨a', c', e'⟩ := ho.slice; exact ⟨_, a', c', e'⟩)
          have FN : Hid (OwnR kT w.heap.size w4 (.slice a4 n4 c4) F ∧ Ri F (rpL kind path names l) ∧ Below w.heap.size w w4) := Lib.hid ⟨ho.mono (by have := BR.out.size; omega), hri, (BR.out.alloc BR.out.size _).trans (hb4.mono (by have := BR.out.size; omega))⟩
          clear ho hri hb4 KA SO
          go_wp2_with fail
          go_ret
          exact ⟨_, _, _, F, rfl, FN.out.1, FN.out.2.1, FN.out.2.2⟩
end Wt
end Go.Proofs.YtoocpbpdoaplgaaDoor
