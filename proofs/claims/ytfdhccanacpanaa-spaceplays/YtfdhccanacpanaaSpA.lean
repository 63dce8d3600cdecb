/-
  A SPACE in memory; has, Take, Give, Free.
-/
import Derived.Test.YtfdhccanacpanaaSpB
namespace Go.Proofs.Ytfdhccanacpanaa
open Go.RowKit
/-- The space d: its first block is f, its states (in sb) are l. -/
structure Sp (B : Nat) (w : World) (d sb f : Nat) (l : List UInt8) : Prop where
  self : w.heap[d]? = some (.cells #[.int .i64 f, .slice (some ⟨sb, 0, none⟩) l.length l.length] 57 (0, 0))
  sts : w.heap[sb]? = some (.cells (cells8 l).toArray 54 (0, 0))
  len : l.length ≤ 4096
  fst : f ≤ 4096
  ok : Sts l
  b1 : B ≤ d
  b2 : B ≤ sb
variable {B : Nat} {w : World} {d sb f : Nat} {l : List UInt8}
theorem Sp.ne (h : Sp B w d sb f l) : d ≠ sb := by
  intro e
  have h1 := h.self
  subst e
  rw [h.sts] at h1
  simp at h1
theorem Sp.kept {F : Nat → Prop} {w' : World} (h : Sp B w d sb f l) (hk : Kept F w w') (h1 : ¬ F d) (h2 : ¬ F sb) : Sp B w' d sb f l :=
  ⟨by rw [hk.block d (lt_of_heap h.self) h1]; exact h.self, by rw [hk.block sb (lt_of_heap h.sts) h2]; exact h.sts, h.len, h.fst, h.ok, h.b1, h.b2⟩
theorem Sp.below {w' : World} (h : Sp B w d sb f l) (hb : Below w.heap.size w w') : Sp B w' d sb f l := h.kept (Below.kept hb (fun _ => False)) (fun h => h) (fun h => h)
theorem Sp.mono {B' : Nat} (h : Sp B w d sb f l) (hB : B' ≤ B) : Sp B' w d sb f l := ⟨h.self, h.sts, h.len, h.fst, h.ok, Nat.le_trans hB h.b1, Nat.le_trans hB h.b2⟩
theorem Sp.c0 (h : Sp B w d sb f l) : w.cell? ⟨d, 0, none⟩ = some (.int .i64 f) := by rw [cell_of_row w d 0 _ _ _ h.self]; rfl
theorem Sp.c1 (h : Sp B w d sb f l) : w.cell? ⟨d, 1, none⟩ = some (.slice (some ⟨sb, 0, none⟩) l.length l.length) := by rw [cell_of_row w d 1 _ _ _ h.self]; rfl
theorem Sp.at (h : Sp B w d sb f l) (k : Nat) (x : UInt8) (hx : l[k]? = some x) : w.cell? ⟨sb, k, none⟩ = some (.int .u8 (c8 x)) := by
  rw [cell_of_row w sb k _ _ _ h.sts]
  simp [cells8, hx]
theorem Sp.free (h : Sp B w d sb f l) (k : Nat) : w.frozen? ⟨sb, k, none⟩ = false := frozen_of_row w sb k _ _ h.sts
theorem Sp.set (h : Sp B w d sb f l) (k : Nat) (x : UInt8) (n : Int) (hn : n = c8 x) (hx : x = 0 ∨ x = 1 ∨ x = 2 ∨ x = 3) : Sp B (w.setCell ⟨sb, k, none⟩ (.int .u8 n)) d sb f (l.set k x) := by
  subst hn
  have K : Kept (fun j => j = sb) w (w.setCell ⟨sb, k, none⟩ (.int .u8 (c8 x))) := kept_set w _ _ rfl
  refine ⟨?_, ?_, by rw [List.length_set]; exact h.len, h.fst, sts_set h.ok _ _ hx, h.b1, h.b2⟩
  · rw [K.block d (lt_of_heap h.self) h.ne, List.length_set]; exact h.self
  · rw [heap_setCell_same w sb k _ _ _ h.sts]
    congr 2
    apply Array.ext'
    simp [cells8, List.map_set]
theorem c8_beq (x y : UInt8) : (c8 x == c8 y) = decide (x = y) := by
  by_cases h : x = y
  · subst h; simp
  · rw [decide_eq_false h, beq_eq_false_iff_ne]; exact fun e => h (c8_inj e)
set_option maxHeartbeats 1000000 in
theorem has_any (h : Sp B w d sb f l) (b : Int) (hb : -9223372036854775808 ≤ b ∧ b < 9223372036854775808) :
    Calls Try.prog 25 #[.pointer (some ⟨d, 0, none⟩), .int .i64 b] w fun e w' => e = .returned (.bool (decide ((f : Int) ≤ b ∧ b < ((f + l.length : Nat) : Int)))) ∧ Below w.heap.size w w' := by
  have p0 := h.c0
  have p1 := h.c1
  obtain ⟨n, hn⟩ : ∃ n, n = l.length := ⟨_, rfl⟩
  rw [← hn] at p1 ⊢
  have h1 := h.fst
  have h2 : n ≤ 4096 := by rw [hn]; exact h.len
  clear h hn
  go_enter Try.func25, Try.ntmps25
  by_cases q : (f : Int) ≤ b
  · have g1 : decide (b ≥ (f : Int)) = true := decide_eq_true q
    go_wp2_with fail
    go_quiet (fail)
    go_wp2_with fail
    go_ret
    refine ⟨congrArg (fun x => Ending.returned (.bool x)) (decide_eq_decide.2 ?_), below_drawn _ _⟩
    omega
  · have g1 : decide (b ≥ (f : Int)) = false := decide_eq_false q
    go_wp2_with fail
    go_quiet (fail)
    go_wp2_with fail
    go_ret
    refine ⟨congrArg (fun x => Ending.returned (.bool x)) ?_, below_drawn _ _⟩
    exact (decide_eq_false (by omega)).symm
set_option maxHeartbeats 1000000 in
theorem take_any (h : Sp B w d sb f l) :
    Calls Try.prog 17 #[.pointer (some ⟨d, 0, none⟩)] w fun e w' => e = .returned (.tuple #[.int .i64 (takeR f l).1, .int .i64 (takeR f l).2.1]) ∧ Sp B w' d sb f (takeR f l).2.2 ∧ Kept (fun k => k = sb) w w' := by
  have p0 := h.c0
  have p1 := h.c1
  have H := Lib.hid h
  obtain ⟨N, hN⟩ : ∃ N, N = l.length := ⟨_, rfl⟩
  rw [← hN] at p1
  have h1 := h.fst
  have h2 : N ≤ 4096 := by rw [hN]; exact h.len
  have NN := Lib.hid hN
  clear h hN
  go_enter Try.func17, Try.ntmps17
  go_wp2_with fail
  go_loopg [10] N (fun g si wr => ∃ (k : Nat), k ≤ N ∧ g = N - k ∧ si = .int .i64 k ∧ wr = w ∧ ∀ j, j < k → ∃ x, l[j]? = some x ∧ x ≠ 0)
  case atStart => exact ⟨0, Nat.zero_le _, rfl, rfl, rfl, fun j hj => by omega⟩
  case round =>
    obtain ⟨k, hk, hg, rfl, rfl, hp⟩ := hrel
    have P := Lib.hid hp
    have G := Lib.hid hg
    clear hp hg
    by_cases hlt : k < N
    · have hlt' : (k : Int) < (N : Int) := by omega
      obtain ⟨x, hx⟩ : ∃ x, l[k]? = some x := ⟨_, List.getElem?_eq_getElem (by rw [← NN.out]; exact hlt)⟩
      have c1 := H.out.at k x hx
      have c2 := H.out.free k
      have X := Lib.hid hx
      obtain ⟨n8, h8⟩ : ∃ n8, n8 = c8 x := ⟨_, rfl⟩
      rw [← h8] at c1
      clear hx
      by_cases hz : x = 0
      · have g1 : (n8 == 0) = true := by rw [h8, hz]; rfl
        have E : Hid (lowF l = k) := Lib.hid (lowF_eq l k (by rw [X.out, hz]) P.out)
        clear h8
        obtain ⟨Y, hY⟩ : ∃ Y, Y = wr.setCell ⟨sb, k, none⟩ (.int .u8 1) := ⟨_, rfl⟩
        have SY : Hid (Sp B Y d sb f (l.set k 1) ∧ Kept (fun j => j = sb) wr Y) := Lib.hid (by rw [hY]; exact ⟨H.out.set k 1 1 rfl (by simp), kept_set _ _ _ rfl⟩)
        have r0 := SY.out.1.c0
        have hY' := hY.symm
        clear hY
        go_wp2_with fail
        go_ret2
        have e : takeR f l = (((f + k : Nat) : Int), 0, l.set k 1) := by
          unfold takeR
          rw [if_pos (by rw [E.out, ← NN.out]; exact hlt), E.out]
        rw [e]
        exact ⟨by go_num, SY.out⟩
      · have g1 : (n8 == 0) = false := by rw [h8, show (0 : Int) = c8 0 from rfl, c8_beq]; exact decide_eq_false hz
        clear h8
        go_wp2_with fail
        go_roundg (N - (k + 1))
        case measure => have := G.out; omega
        case rel =>
          refine ⟨k + 1, by omega, rfl, by go_num, rfl, fun j hj => ?_⟩
          rcases Nat.lt_or_ge j k with q | q
          · exact P.out j q
          · obtain rfl : j = k := by omega
            exact ⟨x, X.out, hz⟩
    · have hge : ¬ (k : Int) < (N : Int) := by omega
      have ek : k = l.length := by rw [← NN.out]; omega
      have EK := Lib.hid ek
      clear ek
      go_wp2_with fail
      go_ret2
      have e : takeR f l = (-1, 3, l) := by
        unfold takeR
        rw [if_neg (by rw [lowF_all l (by rw [← EK.out]; exact P.out)]; omega)]
      rw [e]
      exact ⟨rfl, H.out, Kept.refl _ _⟩
set_option maxHeartbeats 1000000 in
theorem give_any (h : Sp B w d sb f l) (b : Int) (hb : -9223372036854775808 ≤ b ∧ b < 9223372036854775808) :
    Calls Try.prog 13 #[.pointer (some ⟨d, 0, none⟩), .int .i64 b] w fun e w' => e = .returned (.int .i64 (giveR f l b).1) ∧ Sp B w' d sb f (giveR f l b).2 ∧ Kept (fun k => k = sb) w w' := by
  have H := Lib.hid h
  obtain ⟨N, hN⟩ : ∃ N, N = l.length := ⟨_, rfl⟩
  have h1 := h.fst
  have h2 : N ≤ 4096 := by rw [hN]; exact h.len
  have NN := Lib.hid hN
  clear h hN
  go_enter Try.func13, Try.ntmps13
  go_wp2_with fail
  refine (has_any H.out b hb).mono ?_
  rintro _ w' ⟨rfl, bel⟩
  have H' := Lib.hid (H.out.below bel)
  have K := Lib.hid (Below.kept bel (fun k => k = sb))
  clear H bel
  by_cases q : (f : Int) ≤ b ∧ b < ((f + l.length : Nat) : Int)
  · obtain ⟨k, hk⟩ : ∃ k : Nat, (k : Int) = b - f := ⟨(b - f).toNat, by omega⟩
    have eb : b = (f : Int) + k := by omega
    have ek : (b - f).toNat = k := by omega
    have hkN : k < N := by rw [NN.out]; omega
    obtain ⟨x, hx⟩ : ∃ x, l[k]? = some x := ⟨_, List.getElem?_eq_getElem (by rw [← NN.out]; exact hkN)⟩
    have E : Hid (giveR f l b = if x = 1 then (0, l.set k 0) else if x = 2 then (0, l.set k 3) else (81, l)) := Lib.hid (by
      unfold giveR
      rw [if_pos q, ek]
      simp only [List.getD, hx, Option.getD_some])
    have ed : decide ((f : Int) ≤ b ∧ b < ((f + l.length : Nat) : Int)) = true := decide_eq_true q
    rw [ed]
    have p0 := H'.out.c0
    have p1 := H'.out.c1
    rw [← NN.out] at p1
    have c1 := H'.out.at k x hx
    have c2 := H'.out.free k
    obtain ⟨n8, h8⟩ : ∃ n8, n8 = c8 x := ⟨_, rfl⟩
    rw [← h8] at c1
    clear q ed hk ek hx
    subst eb
    have hs : (f : Int) + (k : Int) - (f : Int) = (k : Int) := by omega
    by_cases x1 : x = 1
    · have g1 : (n8 == 1) = true := by rw [h8, x1]; rfl
      clear h8
      go_wp2_with fail
      go_ret
      rw [E.out, if_pos x1]
      exact ⟨rfl, H'.out.set k 0 0 rfl (by simp), Kept.trans (G := fun j => j = sb) K.out (kept_set _ _ _ rfl) fun _ _ h => h⟩
    · have g1 : (n8 == 1) = false := by rw [h8, show (1 : Int) = c8 1 from rfl, c8_beq]; exact decide_eq_false x1
      by_cases x2 : x = 2
      · have g2 : (n8 == 2) = true := by rw [h8, x2]; rfl
        clear h8
        go_wp2_with fail
        go_ret
        rw [E.out, if_neg x1, if_pos x2]
        exact ⟨rfl, H'.out.set k 3 3 rfl (by simp), Kept.trans (G := fun j => j = sb) K.out (kept_set _ _ _ rfl) fun _ _ h => h⟩
      · have g2 : (n8 == 2) = false := by rw [h8, show (2 : Int) = c8 2 from rfl, c8_beq]; exact decide_eq_false x2
        clear h8
        go_wp2_with fail
        go_ret
        rw [E.out, if_neg x1, if_neg x2]
        exact ⟨rfl, H'.out, K.out⟩
  · have E : Hid (giveR f l b = (1, l)) := Lib.hid (by unfold giveR; rw [if_neg q])
    have ed : decide ((f : Int) ≤ b ∧ b < ((f + l.length : Nat) : Int)) = false := decide_eq_false q
    rw [ed]
    clear q ed
    go_wp2_with fail
    go_ret
    rw [E.out]
    exact ⟨rfl, H'.out, K.out⟩
set_option maxHeartbeats 1000000 in
theorem free_any (h : Sp B w d sb f l) :
    Calls Try.prog 18 #[.pointer (some ⟨d, 0, none⟩)] w fun e w' => e = .returned (.int .i64 (freeN l)) ∧ w' = w := by
  have p1 := h.c1
  have H := Lib.hid h
  obtain ⟨N, hN⟩ : ∃ N, N = l.length := ⟨_, rfl⟩
  rw [← hN] at p1
  have h2 : N ≤ 4096 := by rw [hN]; exact h.len
  have NN := Lib.hid hN
  clear h hN
  go_enter Try.func18, Try.ntmps18
  go_wp2_with fail
  go_loopg [3, 10] N (fun g sm si wr => ∃ (k m : Nat), k ≤ N ∧ g = N - k ∧ si = .int .i64 k ∧ wr = w ∧ sm = .int .i64 m ∧ m ≤ k ∧ m = freeN (l.take k))
  case atStart => exact ⟨0, 0, Nat.zero_le _, rfl, rfl, rfl, rfl, Nat.le_refl _, rfl⟩
  case round =>
    obtain ⟨k, m, hk, hg, rfl, rfl, rfl, hmk, hm⟩ := hrel
    have M := Lib.hid hm
    have G := Lib.hid hg
    clear hm hg
    by_cases hlt : k < N
    · have hlt' : (k : Int) < (N : Int) := by omega
      obtain ⟨x, hx⟩ : ∃ x, l[k]? = some x := ⟨_, List.getElem?_eq_getElem (by rw [← NN.out]; exact hlt)⟩
      have c1 := H.out.at k x hx
      have X := Lib.hid hx
      obtain ⟨n8, h8⟩ : ∃ n8, n8 = c8 x := ⟨_, rfl⟩
      rw [← h8] at c1
      clear hx
      by_cases hz : x = 0
      · have g1 : (n8 == 0) = true := by rw [h8, hz]; rfl
        clear h8
        go_wp2_with fail
        go_roundg (N - (k + 1))
        case measure => have := G.out; omega
        case rel =>
          refine ⟨k + 1, m + 1, by omega, rfl, by go_num, rfl, by go_num, by omega, ?_⟩
          rw [List.take_add_one, X.out, Option.toList_some, freeN_snoc, ← M.out, if_pos hz]
      · have g1 : (n8 == 0) = false := by rw [h8, show (0 : Int) = c8 0 from rfl, c8_beq]; exact decide_eq_false hz
        clear h8
        go_wp2_with fail
        go_roundg (N - (k + 1))
        case measure => have := G.out; omega
        case rel =>
          refine ⟨k + 1, m, by omega, rfl, by go_num, rfl, rfl, by omega, ?_⟩
          rw [List.take_add_one, X.out, Option.toList_some, freeN_snoc, ← M.out, if_neg hz]; rfl
    · have hge : ¬ (k : Int) < (N : Int) := by omega
      have EK : Hid (k = l.length) := Lib.hid (by rw [← NN.out]; omega)
      go_wp2_with fail
      go_ret
      refine ⟨?_, rfl⟩
      have e : m = freeN l := by rw [M.out, EK.out, List.take_length]
      rw [e]; rfl
end Go.Proofs.Ytfdhccanacpanaa
