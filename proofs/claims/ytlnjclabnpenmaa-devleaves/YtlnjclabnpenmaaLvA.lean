/-
  The statement's own: over.
-/
import Derived.Test.YtlnjclabnpenmaaLvM
import Derived.Test.YtlnjclabnpenmaaHlA
import Derived.Test.YtlnjclabnpenmaaFlA
namespace Go.Proofs.Ytlnjclabnpenmaa
open Go.RowKit Go.Maps
/-- A slice of slices of bytes. -/
def Blks (w : World) (v : Value) (l : List (List UInt8)) : Prop :=
  ∃ a cap, v = .slice a l.length cap ∧ l.length ≤ cap ∧ cap ≤ maxLen ∧ ∀ k, k < l.length → ∃ b off u, a = some ⟨b, off, none⟩ ∧ w.cell? ⟨b, off + k, none⟩ = some u ∧ Bytes w u (l.getD k [])
theorem Blks.below {w w' : World} {v : Value} {l : List (List UInt8)} (H : Blks w v l) (hb : Below w.heap.size w w') : Blks w' v l := by
  obtain ⟨a, cap, e, h1, h2, h3⟩ := H
  refine ⟨a, cap, e, h1, h2, fun k hk => ?_⟩
  obtain ⟨b, off, u, ea, hc, hu⟩ := h3 k hk
  exact ⟨b, off, u, ea, by rw [hb.cell (p := ⟨b, off + k, none⟩) (block_lt_of_cell hc)]; exact hc, hu.below hb⟩
theorem own_shape {B : Nat} {w : World} {v : Value} {l : List UInt8} (H : Own B w v l) (h : 0 < l.length) : ∃ g cap, v = .slice (some ⟨g, 0, none⟩) l.length cap ∧ l.length ≤ cap ∧ cap ≤ maxLen ∧ B ≤ g ∧ g < w.heap.size := by
  obtain ⟨_, ⟨hv, hn⟩ | ⟨g, cap, cur, hv, hb, hg, hn, hm, hs, ht⟩⟩ := H
  · omega
  · exact ⟨g, cap, hv, hn, hm, hb, lt_of_heap hg⟩
theorem own_set {B : Nat} {w : World} {g n cap : Nat} {l : List UInt8} (H : Own B w (.slice (some ⟨g, 0, none⟩) n cap) l) (k : Nat) (c : UInt8) (hk : k < l.length) :
    (∃ u, w.cell? ⟨g, k, none⟩ = some u) ∧ w.frozen? ⟨g, k, none⟩ = false ∧ Own B (w.setCell ⟨g, k, none⟩ (.int .u8 (c8 c))) (.slice (some ⟨g, 0, none⟩) n cap) (l.set k c) := by
  have hb := H.bytes
  obtain ⟨a, cap2, e2, _, _, _, hc⟩ := hb
  obtain ⟨b, off, ea, hcell⟩ := hc k hk
  obtain ⟨h1, ⟨hv, hn⟩ | ⟨g2, cap3, cur, hv, hb, hg, hn, hm, hs, ht⟩⟩ := H
  · simp at hv
  · simp only [Value.slice.injEq, Option.some.injEq, Addr.mk.injEq, and_true] at hv e2
    obtain ⟨rfl, e3, rfl⟩ := hv
    refine ⟨?_, frozen_of_row w _ _ _ _ hg, ?_⟩
    · rw [← e2.1] at ea
      simp only [Option.some.injEq, Addr.mk.injEq, and_true] at ea
      obtain ⟨rfl, rfl⟩ := ea
      rw [Nat.zero_add] at hcell
      exact ⟨_, hcell⟩
    · refine ⟨by rw [cells8_length, Nat.mul_one], .inr ⟨g, cap, _, by rw [e3, List.length_set], hb, heap_setCell_same _ _ _ _ _ _ hg, by rw [List.length_set]; exact hn, hm, by simpa using hs, ?_⟩⟩
      rw [List.length_set, Array.toList_setIfInBounds, List.take_set, ht]
      unfold cells8
      rw [List.map_set]
set_option maxHeartbeats 8000000 in
set_option maxRecDepth 100000 in
theorem over_any (v vw vf : Value) (b : List UInt8) (l : List (List UInt8 × (Int × Int))) (w : World) (hv : Bytes w v b) (hbl : b.length = 512) (hw : Blks w vw (l.map (·.1))) (hf : Fts w vf (l.map (·.2))) (h5 : ∀ x ∈ l, x.1.length = 512) (hl : l.length ≤ 20) :
    Calls Try.prog 27 #[v, vw, vf] w fun e w' => ∃ v', e = .returned v' ∧ Own w.heap.size w' v' (overL b l) ∧ Below w.heap.size w w' := by
  have V := Lib.hid hv
  have HW := Lib.hid hw
  have HF := Lib.hid hf
  obtain ⟨a0, n0, c0, rfl⟩ : ∃ a n c, v = .slice a n c := by obtain ⟨a, c, e, _⟩ := hv; exact ⟨a, _, c, e⟩
  obtain ⟨aw, cw, rfl, hw1, hw2, hw3⟩ := hw
  obtain ⟨af, cf, rfl, hf1, hf2, _, hf3⟩ := hf
  have C3 := Lib.hid (And.intro hw3 hf3)
  simp only [List.length_map] at hw1 hf1 C3 HW HF
  simp only [List.length_map]
  unfold maxLen at hw2 hf2
  obtain ⟨n, hn⟩ : ∃ n, n = l.length := ⟨_, rfl⟩
  rw [← hn] at hw1 hf1 C3 HW HF hl
  rw [← hn]
  have NN := Lib.hid hn
  have BL := Lib.hid (And.intro hbl h5)
  clear hn hv hw3 hf3 hbl h5 HW HF
  have E0 : Hid (Own w.heap.size w (.slice none 0 0) []) := Lib.hid (World.ownsRow_nil _ _ _ _)
  go_enter Try.func27, Try.ntmps27
  go_wp2_with (at_builtin; refine app_bytes (B := w.heap.size) (v := .slice none 0 0) (l := []) (m := b) rfl (.const (.slice none 0 0)) (.tmp 11) rfl rfl E0.out (Nat.le_refl _) rfl V.out (by rw [BL.out.1]; decide) ?_)
  intro v1 w1 h1 h2 _
  have O1 : Hid (Own w.heap.size w1 v1 b ∧ Below w.heap.size w w1) := Lib.hid ⟨by simpa using h1, (Below.refl _ w).grown h2 (Nat.le_refl _) (by intro k hk; cases hk)⟩
  obtain ⟨g, cap, e1, hcap, hcap2, hg⟩ := own_shape O1.out.1 (by rw [BL.out.1]; decide)
  rw [BL.out.1] at e1 hcap
  unfold maxLen at hcap2
  subst e1
  have GG := Lib.hid hg
  clear h1 h2 E0 hg
  go_wp2_with fail
  go_loopg [8] n (fun gk0 si wr => ∃ (k : Nat), k ≤ n ∧ gk0 = n - k ∧ si = .int .i64 k ∧ Own w.heap.size wr (.slice (some ⟨g, 0, none⟩) 512 cap) (overL b (l.take k)) ∧ Below w.heap.size w wr)
  case atStart => exact ⟨0, Nat.zero_le _, rfl, rfl, O1.out.1, O1.out.2⟩
  case round =>
    obtain ⟨k, hk, hgk, rfl, hO, hB⟩ := hrel
    have R : Aside (gk = n - k ∧ Own w.heap.size wr (.slice (some ⟨g, 0, none⟩) 512 cap) (overL b (l.take k)) ∧ Below w.heap.size w wr) := ⟨hgk, hO, hB⟩
    clear hgk hO hB
    by_cases hlt : k < n
    · have hlt' : (k : Int) < (n : Int) := by omega
      obtain ⟨x, hx⟩ : ∃ x, l[k]? = some x := ⟨_, List.getElem?_eq_getElem (by rw [← NN.out]; exact hlt)⟩
      have hx5 : Hid (x.1.length = 512 ∧ l[k]? = some x) := Lib.hid ⟨BL.out.2 x (List.mem_of_getElem? hx), hx⟩
      obtain ⟨bw, ow, u, rfl, cu, hu⟩ := C3.out.1 k hlt
      obtain ⟨bf, of, rfl, cf0, cf1⟩ := C3.out.2 k hlt
      have ex : (l.map (·.1)).getD k [] = x.1 := by rw [List.getD_eq_getElem?_getD, List.getElem?_map, hx]; rfl
      have ef : (l.map (·.2)).getD k (0, 0) = x.2 := by rw [List.getD_eq_getElem?_getD, List.getElem?_map, hx]; rfl
      rw [ex] at hu
      rw [ef] at cf0 cf1
      obtain ⟨au, cu2, rfl, hu1, hu2, _, hu3⟩ := hu
      rw [hx5.out.1] at hu1 cu hu3
      obtain ⟨ub, uo, rfl, _⟩ := hu3 0 (by decide)
      unfold maxLen at hu2
      have f0 : wr.cell? ⟨bf, of + k * 2, none⟩ = some (.int .i64 x.2.1) := (R.out.2.2.cell (block_lt_of_cell cf0)).trans cf0
      have f1 : wr.cell? ⟨bf, of + k * 2 + 1, none⟩ = some (.int .i64 x.2.2) := (R.out.2.2.cell (block_lt_of_cell cf1)).trans cf1
      have WC : Hid (w.cell? ⟨bw, ow + k, none⟩ = some (.slice (some ⟨ub, uo, none⟩) 512 cu2)) := Lib.hid cu
      have U3 : Hid (∀ j, j < 512 → w.cell? ⟨ub, uo + j, none⟩ = some (.int .u8 (c8 (x.1.getD j 0)))) := Lib.hid (fun j hj => by
        obtain ⟨b2, o2, e2, h2⟩ := hu3 j hj
        simp only [Option.some.injEq, Addr.mk.injEq, and_true] at e2
        obtain ⟨rfl, rfl⟩ := e2
        exact h2)
      obtain ⟨kd, hkd⟩ : ∃ kd, kd = x.2.1 := ⟨_, rfl⟩
      obtain ⟨fa, hfa⟩ : ∃ fa, fa = x.2.2 := ⟨_, rfl⟩
      rw [← hkd] at f0
      rw [← hfa] at f1
      obtain ⟨N, hN⟩ : ∃ N, N = (keptN x.2).1 := ⟨_, rfl⟩
      have N5 : N ≤ 512 := by rw [hN]; exact keptN_le _
      have HN : Hid (N = (keptN x.2).1) := Lib.hid hN
      have KN : Hid (keptN x.2 = keptN (kd, fa)) := Lib.hid (by rw [hkd, hfa])
      clear hx ex ef cf0 cf1 hu3 cu hkd hfa hN
      by_cases h1 : kd = 1
      · have g1 : (kd == 1) = true := by rw [beq_iff_eq]; exact h1
        have g2 : (kd == 2) = false := by rw [beq_eq_false_iff_ne]; omega
        have EN : Hid ((N : Int) = 512) := Lib.hid (by rw [HN.out, KN.out]; simp [keptN, h1])
        clear h1
        go_wp2_with fail
        go_loopg [10] N (fun gk0 sj wq => ∃ (j : Nat), j ≤ N ∧ gk0 = N - j ∧ sj = .int .i64 j ∧ Own w.heap.size wq (.slice (some ⟨g, 0, none⟩) 512 cap) (splice (overL b (l.take k)) 0 (x.1.take j)) ∧ Below w.heap.size w wq)
        case atStart => exact ⟨0, Nat.zero_le _, rfl, rfl, by simpa [splice] using R.out.2.1, R.out.2.2⟩
        case round =>
          obtain ⟨j, hj, hgj, rfl, hO, hB⟩ := hrel
          have Q : Aside (gk = N - j ∧ Own w.heap.size wr (.slice (some ⟨g, 0, none⟩) 512 cap) (splice (overL b (l.take k)) 0 (x.1.take j)) ∧ Below w.heap.size w wr) := ⟨hgj, hO, hB⟩
          clear hgj hO hB
          by_cases hjn : j < N
          · have hjn' : (j : Int) < 512 := by have := EN.out; omega
            have j5 : (j : Int) < 512 := by omega
            have lc : (splice (overL b (l.take k)) 0 (x.1.take j)).length = 512 := by rw [length_splice _ _ _ (by rw [List.length_take, overL_length _ _ BL.out.1]; omega), overL_length _ _ BL.out.1]
            obtain ⟨⟨c1, hc1⟩, hc2, hS⟩ := own_set Q.out.2.1 j (x.1.getD j 0) (by rw [lc]; omega)
            rw [splice_more _ _ _ (by rw [hx5.out.1]; omega) (by rw [overL_length _ _ BL.out.1, hx5.out.1]; exact Nat.le_refl _)] at hS
            have p0 : wr.cell? ⟨bw, ow + k, none⟩ = some (.slice (some ⟨ub, uo, none⟩) 512 cu2) := (Q.out.2.2.cell (block_lt_of_cell WC.out)).trans WC.out
            have p1 : wr.cell? ⟨ub, uo + j, none⟩ = some (.int .u8 (c8 (x.1.getD j 0))) := (Q.out.2.2.cell (block_lt_of_cell (U3.out j (by omega)))).trans (U3.out j (by omega))
            obtain ⟨y, hy⟩ : ∃ y, y = c8 (x.1.getD j 0) := ⟨_, rfl⟩
            rw [← hy] at p1 hS
            have SS := Lib.hid hS
            clear lc hS hy f0 f1
            go_wp2_with fail
            go_roundg (N - (j + 1))
            case measure => have := Q.out.1; omega
            case rel => exact ⟨j + 1, by omega, rfl, by go_num, SS.out, Q.out.2.2.setCell (p := ⟨g, j, none⟩) GG.out.1 _⟩
          · have hge : ¬ (j : Int) < 512 := by have := EN.out; omega
            have ej : Hid (j = N) := Lib.hid (by omega)
            go_wp2_with fail
            go_roundg (n - (k + 1))
            case measure => have := R.out.1; omega
            case rel => exact ⟨k + 1, by omega, rfl, by go_num, by have := Q.out.2.1; rw [ej.out, HN.out] at this; rw [overL_next l b k x hx5.out.2]; exact this, Q.out.2.2⟩
      · have g1 : (kd == 1) = false := by rw [beq_eq_false_iff_ne]; exact h1
        by_cases h2 : kd = 2
        · have g2 : (kd == 2) = true := by rw [beq_iff_eq]; exact h2
          have K2 : Hid ((N : Int) = min (max fa 0) 512) := Lib.hid (by rw [HN.out, KN.out]; simp [keptN, h2]; omega)
          clear h1 h2
          by_cases ha : fa ≤ 0
          · have ha5 : fa < 512 := by omega
            have EN : Hid ((N : Int) = 0) := Lib.hid (by have := K2.out; omega)
            go_wp2_with fail
            go_loopg [10] N (fun gk0 sj wq => ∃ (j : Nat), j ≤ N ∧ gk0 = N - j ∧ sj = .int .i64 j ∧ Own w.heap.size wq (.slice (some ⟨g, 0, none⟩) 512 cap) (splice (overL b (l.take k)) 0 (x.1.take j)) ∧ Below w.heap.size w wq)
            case atStart => exact ⟨0, Nat.zero_le _, rfl, rfl, by simpa [splice] using R.out.2.1, R.out.2.2⟩
            case round =>
              obtain ⟨j, hj, hgj, rfl, hO, hB⟩ := hrel
              have Q : Aside (gk = N - j ∧ Own w.heap.size wr (.slice (some ⟨g, 0, none⟩) 512 cap) (splice (overL b (l.take k)) 0 (x.1.take j)) ∧ Below w.heap.size w wr) := ⟨hgj, hO, hB⟩
              clear hgj hO hB
              by_cases hjn : j < N
              · exact absurd hjn (by have := EN.out; omega)
              · have hge : ¬ (j : Int) < 0 := by have := EN.out; omega
                have ej : Hid (j = N) := Lib.hid (by omega)
                go_wp2_with fail
                go_roundg (n - (k + 1))
                case measure => have := R.out.1; omega
                case rel => exact ⟨k + 1, by omega, rfl, by go_num, by have := Q.out.2.1; rw [ej.out, HN.out] at this; rw [overL_next l b k x hx5.out.2]; exact this, Q.out.2.2⟩
          · have ha0 : 0 < fa := by omega
            by_cases hb : fa < 512
            · have EN : Hid ((N : Int) = fa) := Lib.hid (by have := K2.out; omega)
              go_wp2_with fail
              go_loopg [10] N (fun gk0 sj wq => ∃ (j : Nat), j ≤ N ∧ gk0 = N - j ∧ sj = .int .i64 j ∧ Own w.heap.size wq (.slice (some ⟨g, 0, none⟩) 512 cap) (splice (overL b (l.take k)) 0 (x.1.take j)) ∧ Below w.heap.size w wq)
              case atStart => exact ⟨0, Nat.zero_le _, rfl, rfl, by simpa [splice] using R.out.2.1, R.out.2.2⟩
              case round =>
                obtain ⟨j, hj, hgj, rfl, hO, hB⟩ := hrel
                have Q : Aside (gk = N - j ∧ Own w.heap.size wr (.slice (some ⟨g, 0, none⟩) 512 cap) (splice (overL b (l.take k)) 0 (x.1.take j)) ∧ Below w.heap.size w wr) := ⟨hgj, hO, hB⟩
                clear hgj hO hB
                by_cases hjn : j < N
                · have hjn' : (j : Int) < fa := by have := EN.out; omega
                  have j5 : (j : Int) < 512 := by omega
                  have lc : (splice (overL b (l.take k)) 0 (x.1.take j)).length = 512 := by rw [length_splice _ _ _ (by rw [List.length_take, overL_length _ _ BL.out.1]; omega), overL_length _ _ BL.out.1]
                  obtain ⟨⟨c1, hc1⟩, hc2, hS⟩ := own_set Q.out.2.1 j (x.1.getD j 0) (by rw [lc]; omega)
                  rw [splice_more _ _ _ (by rw [hx5.out.1]; omega) (by rw [overL_length _ _ BL.out.1, hx5.out.1]; exact Nat.le_refl _)] at hS
                  have p0 : wr.cell? ⟨bw, ow + k, none⟩ = some (.slice (some ⟨ub, uo, none⟩) 512 cu2) := (Q.out.2.2.cell (block_lt_of_cell WC.out)).trans WC.out
                  have p1 : wr.cell? ⟨ub, uo + j, none⟩ = some (.int .u8 (c8 (x.1.getD j 0))) := (Q.out.2.2.cell (block_lt_of_cell (U3.out j (by omega)))).trans (U3.out j (by omega))
                  obtain ⟨y, hy⟩ : ∃ y, y = c8 (x.1.getD j 0) := ⟨_, rfl⟩
                  rw [← hy] at p1 hS
                  have SS := Lib.hid hS
                  clear lc hS hy f0 f1
                  go_wp2_with fail
                  go_roundg (N - (j + 1))
                  case measure => have := Q.out.1; omega
                  case rel => exact ⟨j + 1, by omega, rfl, by go_num, SS.out, Q.out.2.2.setCell (p := ⟨g, j, none⟩) GG.out.1 _⟩
                · have hge : ¬ (j : Int) < fa := by have := EN.out; omega
                  have ej : Hid (j = N) := Lib.hid (by omega)
                  go_wp2_with fail
                  go_roundg (n - (k + 1))
                  case measure => have := R.out.1; omega
                  case rel => exact ⟨k + 1, by omega, rfl, by go_num, by have := Q.out.2.1; rw [ej.out, HN.out] at this; rw [overL_next l b k x hx5.out.2]; exact this, Q.out.2.2⟩
            · have hb' : 512 ≤ fa := by omega
              have EN : Hid ((N : Int) = 512) := Lib.hid (by have := K2.out; omega)
              go_wp2_with fail
              go_loopg [10] N (fun gk0 sj wq => ∃ (j : Nat), j ≤ N ∧ gk0 = N - j ∧ sj = .int .i64 j ∧ Own w.heap.size wq (.slice (some ⟨g, 0, none⟩) 512 cap) (splice (overL b (l.take k)) 0 (x.1.take j)) ∧ Below w.heap.size w wq)
              case atStart => exact ⟨0, Nat.zero_le _, rfl, rfl, by simpa [splice] using R.out.2.1, R.out.2.2⟩
              case round =>
                obtain ⟨j, hj, hgj, rfl, hO, hB⟩ := hrel
                have Q : Aside (gk = N - j ∧ Own w.heap.size wr (.slice (some ⟨g, 0, none⟩) 512 cap) (splice (overL b (l.take k)) 0 (x.1.take j)) ∧ Below w.heap.size w wr) := ⟨hgj, hO, hB⟩
                clear hgj hO hB
                by_cases hjn : j < N
                · have hjn' : (j : Int) < 512 := by have := EN.out; omega
                  have j5 : (j : Int) < 512 := by omega
                  have lc : (splice (overL b (l.take k)) 0 (x.1.take j)).length = 512 := by rw [length_splice _ _ _ (by rw [List.length_take, overL_length _ _ BL.out.1]; omega), overL_length _ _ BL.out.1]
                  obtain ⟨⟨c1, hc1⟩, hc2, hS⟩ := own_set Q.out.2.1 j (x.1.getD j 0) (by rw [lc]; omega)
                  rw [splice_more _ _ _ (by rw [hx5.out.1]; omega) (by rw [overL_length _ _ BL.out.1, hx5.out.1]; exact Nat.le_refl _)] at hS
                  have p0 : wr.cell? ⟨bw, ow + k, none⟩ = some (.slice (some ⟨ub, uo, none⟩) 512 cu2) := (Q.out.2.2.cell (block_lt_of_cell WC.out)).trans WC.out
                  have p1 : wr.cell? ⟨ub, uo + j, none⟩ = some (.int .u8 (c8 (x.1.getD j 0))) := (Q.out.2.2.cell (block_lt_of_cell (U3.out j (by omega)))).trans (U3.out j (by omega))
                  obtain ⟨y, hy⟩ : ∃ y, y = c8 (x.1.getD j 0) := ⟨_, rfl⟩
                  rw [← hy] at p1 hS
                  have SS := Lib.hid hS
                  clear lc hS hy f0 f1
                  go_wp2_with fail
                  go_roundg (N - (j + 1))
                  case measure => have := Q.out.1; omega
                  case rel => exact ⟨j + 1, by omega, rfl, by go_num, SS.out, Q.out.2.2.setCell (p := ⟨g, j, none⟩) GG.out.1 _⟩
                · have hge : ¬ (j : Int) < 512 := by have := EN.out; omega
                  have ej : Hid (j = N) := Lib.hid (by omega)
                  go_wp2_with fail
                  go_roundg (n - (k + 1))
                  case measure => have := R.out.1; omega
                  case rel => exact ⟨k + 1, by omega, rfl, by go_num, by have := Q.out.2.1; rw [ej.out, HN.out] at this; rw [overL_next l b k x hx5.out.2]; exact this, Q.out.2.2⟩
        · have g2 : (kd == 2) = false := by rw [beq_eq_false_iff_ne]; exact h2
          have EN : Hid ((N : Int) = 0) := Lib.hid (by rw [HN.out, KN.out]; simp [keptN, h1, h2])
          clear h1 h2
          go_wp2_with fail
          go_loopg [10] N (fun gk0 sj wq => ∃ (j : Nat), j ≤ N ∧ gk0 = N - j ∧ sj = .int .i64 j ∧ Own w.heap.size wq (.slice (some ⟨g, 0, none⟩) 512 cap) (splice (overL b (l.take k)) 0 (x.1.take j)) ∧ Below w.heap.size w wq)
          case atStart => exact ⟨0, Nat.zero_le _, rfl, rfl, by simpa [splice] using R.out.2.1, R.out.2.2⟩
          case round =>
            obtain ⟨j, hj, hgj, rfl, hO, hB⟩ := hrel
            have Q : Aside (gk = N - j ∧ Own w.heap.size wr (.slice (some ⟨g, 0, none⟩) 512 cap) (splice (overL b (l.take k)) 0 (x.1.take j)) ∧ Below w.heap.size w wr) := ⟨hgj, hO, hB⟩
            clear hgj hO hB
            by_cases hjn : j < N
            · exact absurd hjn (by have := EN.out; omega)
            · have hge : ¬ (j : Int) < 0 := by have := EN.out; omega
              have ej : Hid (j = N) := Lib.hid (by omega)
              go_wp2_with fail
              go_roundg (n - (k + 1))
              case measure => have := R.out.1; omega
              case rel => exact ⟨k + 1, by omega, rfl, by go_num, by have := Q.out.2.1; rw [ej.out, HN.out] at this; rw [overL_next l b k x hx5.out.2]; exact this, Q.out.2.2⟩
    · have hge : ¬ (k : Int) < (n : Int) := by omega
      have ek : Hid (l.take k = l) := Lib.hid (by rw [List.take_of_length_le (by rw [← NN.out]; omega)])
      go_wp2_with fail
      go_ret
      exact ⟨_, rfl, by have := R.out.2.1; rw [ek.out] at this; exact this, R.out.2.2⟩
end Go.Proofs.Ytlnjclabnpenmaa
