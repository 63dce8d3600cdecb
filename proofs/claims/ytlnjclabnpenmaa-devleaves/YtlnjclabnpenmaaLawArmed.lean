/-
  DevArmed.
-/
import Derived.Test.YtlnjclabnpenmaaStA
namespace Go.Proofs.Ytlnjclabnpenmaa
open Go.RowKit Go.Maps
/-- The slice v holds the bools l. -/
def Bools (w : World) (v : Value) (l : List Bool) : Prop :=
  ∃ a cap, v = .slice a l.length cap ∧ l.length ≤ cap ∧ cap ≤ maxLen ∧ ∀ k, k < l.length → ∃ b off, a = some ⟨b, off, none⟩ ∧ w.cell? ⟨b, off + k, none⟩ = some (.bool (l.getD k false))
/-- The device, armed, behind k writes. -/
def Arm (M : List UInt8) (n k : Nat) (s : DS) : Prop := s.n = 64 ∧ s.med = M ∧ s.armed = true ∧ s.left = ((n - k : Nat) : Int) ∧ s.down = false ∧ s.cache.length = k ∧ s.ws = k + 1
theorem has64 {s : DS} (h : s.n = 64) {k : Nat} (hk : k < 64) : hasB s (k : Int) = true := by unfold hasB; rw [h, Bool.and_eq_true, decide_eq_true_iff, decide_eq_true_iff]; omega
theorem hasno {s : DS} (h : s.n = 64) : hasB s 64 = false := by unfold hasB; rw [h]; rfl
theorem hasneg (s : DS) : hasB s (-1) = false := by unfold hasB; rfl
theorem arm_act {M : List UInt8} {n k : Nat} {s : DS} (h : Arm M n k s) (hk : k < n) (hn : n ≤ 40) : (actD s).2 = 0 ∧ (actD s).1.left = ((n - (k + 1) : Nat) : Int) ∧ (actD s).1.armed = true ∧ (actD s).1.down = false := by
  obtain ⟨_, _, ha, hl, hd, _, _⟩ := h
  have h1 : ¬ ((s.armed && decide (s.left = 0)) = true) := by rw [ha, hl, Bool.true_and, decide_eq_true_iff]; omega
  unfold actD
  rw [if_neg h1, if_neg (by rw [hd]; exact Bool.noConfusion), if_pos ha]
  refine ⟨rfl, ?_, ha, hd⟩
  show wrap64 (s.left - 1) = _
  rw [hl]
  unfold wrap64
  omega
theorem arm_write {M : List UInt8} {n k : Nat} {s : DS} (h : Arm M n k s) (hk : k < n) (hn : n ≤ 40) (p : List UInt8) (hp : p.length = 512) : (wrE s (k : Int) p).2 = 0 ∧ Arm M n (k + 1) (wrE s (k : Int) p).1 := by
  have A := arm_act h hk hn
  have SA := act_same s
  rw [wr_ok (has64 h.1 (by omega)) hp A.1]
  refine ⟨rfl, ?_, ?_, A.2.2.1, A.2.1, A.2.2.2, ?_, ?_⟩
  · show (actD s).1.n = 64
    rw [SA.2.2.2.2.1]; exact h.1
  · show (actD s).1.med = M
    rw [SA.2.1]; exact h.2.1
  · show ((actD s).1.cache ++ [_]).length = k + 1
    rw [SA.1, List.length_append, h.2.2.2.2.2.1]; rfl
  · show (actD s).1.ws + 1 = k + 1 + 1
    rw [SA.2.2.2.1, h.2.2.2.2.2.2]
theorem arm_again {M : List UInt8} {n k : Nat} {s : DS} (h : Arm M n k s) : (armD s ((n - k : Nat) : Int)).2 = 0 ∧ Arm M n k (armD s ((n - k : Nat) : Int)).1 := by
  unfold armD
  rw [if_neg (by omega), if_neg (by rw [h.2.2.2.2.1]; exact Bool.noConfusion)]
  exact ⟨rfl, h.1, h.2.1, rfl, rfl, h.2.2.2.2.1, h.2.2.2.2.2.1, h.2.2.2.2.2.2⟩
theorem arm_end {M : List UInt8} {n : Nat} {s : DS} (h : Arm M n n s) : actD s = ({ s with down := true }, 6) ∧ actD { s with down := true } = ({ s with down := true }, 6) := by
  obtain ⟨_, _, ha, hl, _, _, _⟩ := h
  have h1 : (s.armed && decide (s.left = 0)) = true := by rw [ha, hl, Nat.sub_self]; rfl
  refine ⟨?_, ?_⟩
  · unfold actD; rw [if_pos h1]
  · unfold actD; rw [if_pos h1]
theorem act_add {s : DS} (ha : s.armed = false) (hd : s.down = false) {k : Nat} {p : List UInt8} : (actD (addW s k p)).2 = 0 := by
  unfold actD
  rw [if_neg (by show ¬ ((s.armed && decide (s.left = 0)) = true); rw [ha]; exact Bool.noConfusion), if_neg (by show ¬ s.down = true; rw [hd]; exact Bool.noConfusion), if_neg (by show ¬ s.armed = true; rw [ha]; exact Bool.noConfusion)]
set_option maxHeartbeats 8000000 in
set_option maxRecDepth 100000 in
theorem devArmed_walk (n : Int) (v : Value) (l : List Bool) (w : World) (_hn : -9223372036854775808 ≤ n ∧ n < 9223372036854775808) (hv : Bools w v l) (_hl : l.length ≤ 140737488355328) :
    Calls Try.prog 6 #[.int .i64 n, v] w fun e w' => e = .returned (.bool true) ∧ Below w.heap.size w w' := by
  obtain ⟨a, cap, rfl, hlc, hcm, hc⟩ := hv
  unfold maxLen at hcm
  have HC := Lib.hid hc
  obtain ⟨L, hL⟩ : ∃ L, L = l.length := ⟨_, rfl⟩
  rw [← hL] at hlc HC ⊢
  have LV := Lib.hid (st_lives w)
  obtain ⟨b, hb⟩ : ∃ b, b = w.heap.size := ⟨_, rfl⟩
  rw [← hb] at LV ⊢
  have BB := Lib.hid hb
  clear hc hL hb
  by_cases hn0 : n < 0
  · have g1 : decide (n < 0) = true := decide_eq_true hn0
    have g2 : decide (n > 40) = false := decide_eq_false (by omega)
    have N0 := Lib.hid hn0
    go_enter Try.func6, Try.ntmps6
    go_wp2_with fail
    refine LV.out.mono ?_
    rintro e w1 ⟨rfl, hs1⟩
    have AR := Lib.hid (st_arm hs1 n)
    have ea : armD liveS n = (liveS, 1) := by unfold armD; rw [if_pos N0.out]
    rw [ea] at AR
    clear hs1 LV ea hn0
    go_wp2_with fail
    refine AR.out.mono ?_
    rintro e w2 ⟨rfl, hs2, hc2⟩
    have S2 := Lib.hid hs2
    clear hs2 hc2 AR
    go_wp2_with fail
    go_ret
    exact ⟨rfl, S2.out.2.1⟩
  · have g1 : decide (n < 0) = false := decide_eq_false hn0
    by_cases hn4 : n > 40
    · have g2 : decide (n > 40) = true := decide_eq_true hn4
      go_enter Try.func6, Try.ntmps6
      go_wp2_with fail
      refine LV.out.mono ?_
      rintro e w1 ⟨rfl, hs1⟩
      have S1 := Lib.hid hs1
      clear hs1 LV
      go_wp2_with fail
      go_ret
      exact ⟨rfl, S1.out.2.1⟩
    · have g2 : decide (n > 40) = false := decide_eq_false hn4
      obtain ⟨m, rfl⟩ : ∃ m : Nat, n = (m : Int) := ⟨n.toNat, by omega⟩
      have hm : m ≤ 40 := by omega
      clear hn0 hn4
      obtain ⟨p1, hp1⟩ : ∃ p1, p1 = List.replicate 512 (1 : UInt8) := ⟨_, rfl⟩
      have PL : Hid (p1.length = 512) := Lib.hid (by rw [hp1, List.length_replicate])
      have FU : Hid (∀ W s, St b w W s → Calls Try.prog 13 #[.int .u8 1] W fun e W' => e = .returned (.slice (some ⟨W.heap.size, 0, none⟩) 512 512) ∧ Own W.heap.size W' (.slice (some ⟨W.heap.size, 0, none⟩) 512 512) p1 ∧ St b w W' s ∧ Carry W W') := Lib.hid (fun W s h => by rw [hp1]; exact st_full h 1)
      clear hp1
      go_enter Try.func6, Try.ntmps6
      go_wp2_with fail
      refine LV.out.mono ?_
      rintro e w1 ⟨rfl, hs1⟩
      have AR := Lib.hid (st_arm hs1 (m : Int))
      have ea : (armD liveS (m : Int)).2 = 0 ∧ Arm liveS.med m 0 (armD liveS (m : Int)).1 := by
        unfold armD
        rw [if_neg (by omega), if_neg (by exact Bool.noConfusion)]
        exact ⟨rfl, rfl, rfl, rfl, rfl, rfl, rfl, rfl⟩
      rw [ea.1] at AR
      have EA := Lib.hid ea.2
      obtain ⟨s2, hs2⟩ : ∃ s2, s2 = (armD liveS (m : Int)).1 := ⟨_, rfl⟩
      rw [← hs2] at AR EA
      clear hs1 LV ea hs2
      go_wp2_with fail
      refine AR.out.mono ?_
      rintro e w2 ⟨rfl, hs2, hc2⟩
      have S2 := Lib.hid hs2
      clear hs2 hc2 AR
      go_wp2_with fail
      go_loopg [6] m (fun g si wr => ∃ (k : Nat) (s : DS), k ≤ m ∧ g = m - k ∧ si = .int .i64 k ∧ Arm liveS.med m k s ∧ St b w wr s)
      case atStart => exact ⟨0, s2, Nat.zero_le _, rfl, rfl, EA.out, S2.out⟩
      case round =>
        obtain ⟨k, s, hk, hg, rfl, hA, hS⟩ := hrel
        have R : Aside (gk = m - k ∧ Arm liveS.med m k s ∧ St b w wr s) := ⟨hg, hA, hS⟩
        clear hg hA hS
        by_cases hlt : k < m
        · have hlt' : (k : Int) < (m : Int) := by omega
          go_wp2_with fail
          refine (FU.out wr s R.out.2.2).mono ?_
          rintro e w3 ⟨rfl, ho3, hs3, hc3⟩
          have W1 := Lib.hid (st_write hs3 64 _ _ p1 ho3 (by rw [R.out.2.1.2.2.2.2.2.2]; omega))
          rw [wr_noblock (hasno R.out.2.1.1)] at W1
          clear ho3 hs3 hc3
          go_wp2_with fail
          refine W1.out.mono ?_
          rintro e w4 ⟨rfl, hs4, hc4⟩
          have W2 := Lib.hid (st_write hs4 1 0 (.slice none 0 0) [] (World.ownsRow_nil _ _ _ _) (by rw [R.out.2.1.2.2.2.2.2.2]; omega))
          rw [wr_size (show hasB s 1 = true from has64 (k := 1) R.out.2.1.1 (by omega)) (by decide)] at W2
          clear hs4 hc4 W1
          go_wp2_with fail
          refine W2.out.mono ?_
          rintro e w5 ⟨rfl, hs5, hc5⟩
          have DN := Lib.hid (st_down hs5)
          rw [R.out.2.1.2.2.2.2.1] at DN
          have S5 := Lib.hid hs5
          clear hs5 hc5 W2
          go_wp2_with fail
          refine DN.out.mono ?_
          rintro e w6 ⟨rfl, rfl⟩
          clear DN
          have cv8 : IntKind.u8.wrap (k : Int) = c8 (UInt8.ofNat k) := by rw [c8_of _ (by omega)]; rw [IntKind.wrap_u8]; omega
          have F2 := Lib.hid (st_full S5.out (UInt8.ofNat k))
          obtain ⟨p2, hp2⟩ : ∃ p2, p2 = List.replicate 512 (UInt8.ofNat k) := ⟨_, rfl⟩
          rw [← hp2] at F2
          have PL2 : Hid (p2.length = 512) := Lib.hid (by rw [hp2, List.length_replicate])
          clear hp2
          go_wp2_with fail
          refine F2.out.mono ?_
          rintro e w7 ⟨rfl, ho7, hs7, hc7⟩
          have AW := arm_write R.out.2.1 hlt hm p2 PL2.out
          have W3 := Lib.hid (st_write hs7 (k : Int) _ _ p2 ho7 (by rw [R.out.2.1.2.2.2.2.2.2]; omega))
          rw [AW.1] at W3
          obtain ⟨s8, hs8⟩ : ∃ s8, s8 = (wrE s (k : Int) p2).1 := ⟨_, rfl⟩
          rw [← hs8] at W3
          have A8 : Hid (Arm liveS.med m (k + 1) s8) := Lib.hid (by rw [hs8]; exact AW.2)
          clear ho7 hs7 hc7 F2 AW hs8 cv8
          go_wp2_with fail
          refine W3.out.mono ?_
          rintro e w8 ⟨rfl, hs8, hc8⟩
          have S8 := Lib.hid hs8
          clear hs8 hc8 W3
          by_cases hkl : k < L
          · have hkl' : (k : Int) < (L : Int) := by omega
            obtain ⟨bb, off, rfl, hcell⟩ := HC.out k hkl
            have r0 : w8.cell? ⟨bb, off + k, none⟩ = some (.bool (l.getD k false)) := by rw [S8.out.2.1.cell (p := ⟨bb, off + k, none⟩) (by rw [BB.out]; exact block_lt_of_cell hcell)]; exact hcell
            clear hcell
            cases hx : l.getD k false with
            | true =>
              rw [hx] at r0
              have AG := arm_again A8.out
              have AR := Lib.hid (st_arm S8.out ((m - (k + 1) : Nat) : Int))
              rw [AG.1] at AR
              have e9 : (m : Int) - (k : Int) - 1 = ((m - (k + 1) : Nat) : Int) := by omega
              obtain ⟨s9, hs9⟩ : ∃ s9, s9 = (armD s8 ((m - (k + 1) : Nat) : Int)).1 := ⟨_, rfl⟩
              rw [← hs9] at AR
              have A9 : Hid (Arm liveS.med m (k + 1) s9) := Lib.hid (by rw [hs9]; exact AG.2)
              obtain ⟨j, hj⟩ : ∃ j : Nat, j = m - (k + 1) := ⟨_, rfl⟩
              rw [← hj] at AR e9
              clear AG hs9 hx hj
              go_wp2_with fail
              refine AR.out.mono ?_
              rintro e w9 ⟨rfl, hs9, hc9⟩
              have S9 := Lib.hid hs9
              clear hs9 hc9 AR e9
              go_wp2_with fail
              go_roundg (m - (k + 1))
              case measure => have := R.out.1; omega
              case rel => exact ⟨k + 1, s9, by omega, rfl, by go_num, A9.out, S9.out⟩
            | false =>
              rw [hx] at r0
              clear hx
              go_wp2_with fail
              go_roundg (m - (k + 1))
              case measure => have := R.out.1; omega
              case rel => exact ⟨k + 1, s8, by omega, rfl, by go_num, A8.out, S8.out⟩
          · have hkl' : ¬ (k : Int) < (L : Int) := by omega
            go_wp2_with fail
            go_roundg (m - (k + 1))
            case measure => have := R.out.1; omega
            case rel => exact ⟨k + 1, s8, by omega, rfl, by go_num, A8.out, S8.out⟩
        · have ek : k = m := by omega
          subst ek
          have hlt' : ¬ (k : Int) < (k : Int) := by omega
          have AE := arm_end R.out.2.1
          obtain ⟨sD, hsD⟩ : ∃ sD : DS, sD = { s with down := true } := ⟨_, rfl⟩
          rw [← hsD] at AE
          have FD : Hid (sD.n = 64 ∧ sD.med = s.med ∧ sD.down = true ∧ sD.cache = s.cache ∧ sD.ws = k + 1) := Lib.hid (by rw [hsD]; exact ⟨R.out.2.1.1, rfl, rfl, rfl, R.out.2.1.2.2.2.2.2.2⟩)
          have AEH := Lib.hid AE
          have MD := Lib.hid (st_medium R.out.2.2)
          have hs64 : s.n = 64 := R.out.2.1.1
          rw [hs64] at MD
          clear hsD AE hs64
          go_wp2_with fail
          refine MD.out.mono ?_
          rintro e w3 ⟨rfl, ho3, hs3, hc3⟩
          have O3 := Lib.hid ho3
          have PD := Lib.hid (st_pending hs3 (by rw [R.out.2.1.2.2.2.2.2.2]; omega))
          clear ho3 hs3 hc3 MD
          go_wp2_with fail
          refine PD.out.mono ?_
          rintro e w4 ⟨v4, rfl, ho4, hs4, hc4⟩
          have O4 := Lib.hid (And.intro (hc4.1 _ _ _ O3.out) ho4)
          have DN := Lib.hid (st_down hs4)
          rw [R.out.2.1.2.2.2.2.1] at DN
          have FL := Lib.hid (st_flush hs4 (by rw [R.out.2.1.2.2.2.2.2.2]; omega))
          have ef : flD s = (sD, 6) := by unfold flD; rw [AEH.out.1, if_pos (show (6 : Int) ≠ 0 by decide)]
          rw [ef] at FL
          obtain ⟨a4, cc4, e4⟩ : ∃ a c, v4 = .slice a k c := by
            obtain ⟨a, c, e, _⟩ := ho4.ints
            have hk4 : (blocksOf s.cache).length = k := by simp [blocksOf, R.out.2.1.2.2.2.2.2.1]
            exact ⟨a, c, by rw [e, hk4]⟩
          subst e4
          clear ho4 hs4 hc4 PD O3 ef
          go_wp2_with fail
          refine DN.out.mono ?_
          rintro e w4 ⟨rfl, rfl⟩
          clear DN
          go_wp2_with fail
          refine FL.out.mono ?_
          rintro e w5 ⟨rfl, hs5, hc5⟩
          have O5 := Lib.hid (And.intro (hc5.1 _ _ _ O4.out.1) (hc5.2.1 _ _ _ O4.out.2))
          have DN := Lib.hid (st_down hs5)
          rw [FD.out.2.2.1] at DN
          have F6 := Lib.hid (FU.out _ _ hs5)
          clear hs5 hc5 FL O4
          go_wp2_with fail
          refine DN.out.mono ?_
          rintro e w5 ⟨rfl, rfl⟩
          clear DN
          go_wp2_with fail
          refine F6.out.mono ?_
          rintro e w6 ⟨rfl, ho6, hs6, hc6⟩
          have O6 := Lib.hid (And.intro (hc6.1 _ _ _ O5.out.1) (hc6.2.1 _ _ _ O5.out.2))
          have W6 := Lib.hid (st_write hs6 1 _ _ p1 ho6 (by rw [FD.out.2.2.2.2]; omega))
          have e6 : wrE sD 1 p1 = (sD, 6) := by rw [wr_act (show hasB sD 1 = true from has64 (k := 1) FD.out.1 (by omega)) PL.out (by rw [AEH.out.2]; exact fun h => by cases h), AEH.out.2]
          rw [e6] at W6
          clear ho6 hs6 hc6 F6 O5 e6
          go_wp2_with fail
          refine W6.out.mono ?_
          rintro e w7 ⟨rfl, hs7, hc7⟩
          have O7 := Lib.hid (And.intro (hc7.1 _ _ _ O6.out.1) (hc7.2.1 _ _ _ O6.out.2))
          have W7 := Lib.hid (st_write hs7 (-1) 0 (.slice none 0 0) [] (World.ownsRow_nil _ _ _ _) (by rw [FD.out.2.2.2.2]; omega))
          rw [wr_noblock (hasneg sD)] at W7
          clear hs7 hc7 W6 O6
          go_wp2_with fail
          refine W7.out.mono ?_
          rintro e w8 ⟨rfl, hs8, hc8⟩
          have O8 := Lib.hid (And.intro (hc8.1 _ _ _ O7.out.1) (hc8.2.1 _ _ _ O7.out.2))
          have A8 := Lib.hid (st_arm hs8 5)
          have e8 : armD sD 5 = (sD, 6) := by unfold armD; rw [if_neg (by decide), if_pos FD.out.2.2.1]
          rw [e8] at A8
          clear hs8 hc8 W7 O7 e8
          go_wp2_with fail
          refine A8.out.mono ?_
          rintro e w9 ⟨rfl, hs9, hc9⟩
          have O9 := Lib.hid (And.intro (hc9.1 _ _ _ O8.out.1) (hc9.2.1 _ _ _ O8.out.2))
          have A9 := Lib.hid (st_arm hs9 (-1))
          have e9 : armD sD (-1) = (sD, 1) := by unfold armD; rw [if_pos (by decide)]
          rw [e9] at A9
          clear hs9 hc9 A8 O8 e9
          go_wp2_with fail
          refine A9.out.mono ?_
          rintro e w10 ⟨rfl, hs10, hc10⟩
          have O10 := Lib.hid (And.intro (hc10.1 _ _ _ O9.out.1) (hc10.2.1 _ _ _ O9.out.2))
          have RD := Lib.hid (st_read hs10 3)
          have e10 : rdD sD 3 = (sD, [], 6) := by unfold rdD; rw [if_neg (by rw [show hasB sD 3 = true from has64 (k := 3) FD.out.1 (by omega)]; exact Bool.noConfusion), if_pos FD.out.2.2.1]
          rw [e10] at RD
          clear hs10 hc10 A9 O9 e10
          go_wp2_with fail
          refine RD.out.mono ?_
          rintro e w11 ⟨v11, rfl, ho11, hs11, hc11⟩
          have O11 := Lib.hid (And.intro (hc11.1 _ _ _ O10.out.1) (hc11.2.1 _ _ _ O10.out.2))
          obtain ⟨a11, c11, e11, _⟩ := ho11.bytes
          have e11' : v11 = .slice a11 0 c11 := e11
          subst e11'
          have MD := Lib.hid (st_medium hs11)
          rw [FD.out.1, FD.out.2.1] at MD
          clear ho11 hs11 hc11 RD O10 e11
          go_wp2_with fail
          refine MD.out.mono ?_
          rintro e w12 ⟨rfl, ho12, hs12, hc12⟩
          have O12 := Lib.hid (And.intro (hc12.1 _ _ _ O11.out.1) (hc12.2.1 _ _ _ O11.out.2))
          have SM := Lib.hid (same_any _ _ s.med s.med w12 ho12.bytes O12.out.1.bytes)
          rw [decide_eq_true rfl] at SM
          have S12 := Lib.hid hs12
          clear ho12 hs12 hc12 MD O11
          go_wp2_with fail
          refine SM.out.mono ?_
          rintro e w12 ⟨rfl, rfl⟩
          have PD := Lib.hid (st_pending S12.out (by rw [FD.out.2.2.2.2]; omega))
          rw [FD.out.2.2.2.1] at PD
          clear SM
          go_wp2_with fail
          refine PD.out.mono ?_
          rintro e w13 ⟨v13, rfl, ho13, hs13, hc13⟩
          have O13 := Lib.hid (And.intro (hc13.1 _ _ _ O12.out.1) (hc13.2.1 _ _ _ O12.out.2))
          have SI := Lib.hid (sameInts_yes _ _ _ w13 ho13.ints O13.out.2.ints)
          have S13 := Lib.hid hs13
          clear ho13 hs13 hc13 PD O12 S12
          go_wp2_with fail
          refine SI.out.mono ?_
          rintro e w14 ⟨rfl, hb14⟩
          have S14 := Lib.hid (st_below S13.out hb14)
          have O14 := Lib.hid (O13.out.1.below hb14)
          have CR := Lib.hid (st_crash S14.out.1 (by rw [FD.out.2.2.2.2]; omega))
          rw [cnts_none] at CR
          obtain ⟨sC, hsC⟩ : ∃ sC, sC = crD sD [] := ⟨_, rfl⟩
          have FC : Hid (sC.n = 64 ∧ sC.med = s.med ∧ sC.down = false ∧ sC.ws = k + 1 ∧ actD sC = (sC, 0) ∧ sC.armed = false) := Lib.hid (by
            rw [hsC]
            refine ⟨FD.out.1, ?_, rfl, FD.out.2.2.2.2, rfl, rfl⟩
            show sets (fateAt []) 0 sD.cache sD.med = s.med
            rw [sets_none, FD.out.2.1])
          rw [← hsC] at CR
          clear hb14 SI O13 S13 hsC
          go_wp2_with fail
          refine CR.out.mono ?_
          rintro e w15 ⟨rfl, hs15, hc15⟩
          have O15 := Lib.hid (hc15.1 _ _ _ O14.out)
          have DN := Lib.hid (st_down hs15)
          rw [FC.out.2.2.1] at DN
          have MD := Lib.hid (st_medium hs15)
          rw [FC.out.1, FC.out.2.1] at MD
          clear hs15 hc15 CR O14 S14
          go_wp2_with fail
          refine DN.out.mono ?_
          rintro e w15 ⟨rfl, rfl⟩
          clear DN
          go_wp2_with fail
          refine MD.out.mono ?_
          rintro e w16 ⟨rfl, ho16, hs16, hc16⟩
          have SM := Lib.hid (same_any _ _ s.med s.med w16 ho16.bytes (hc16.1 _ _ _ O15.out).bytes)
          rw [decide_eq_true rfl] at SM
          have S16 := Lib.hid hs16
          clear ho16 hs16 hc16 MD O15
          go_wp2_with fail
          refine SM.out.mono ?_
          rintro e w16 ⟨rfl, rfl⟩
          have F6 := Lib.hid (FU.out _ _ S16.out)
          clear SM
          go_wp2_with fail
          refine F6.out.mono ?_
          rintro e w17 ⟨rfl, ho17, hs17, hc17⟩
          have W17 := Lib.hid (st_write hs17 1 _ _ p1 ho17 (by rw [FC.out.2.2.2.1]; omega))
          rw [wr_ok (show hasB sC 1 = true from has64 (k := 1) FC.out.1 (by omega)) PL.out (by rw [FC.out.2.2.2.2.1]), FC.out.2.2.2.2.1] at W17
          clear ho17 hs17 hc17 F6
          go_wp2_with fail
          refine W17.out.mono ?_
          rintro e w18 ⟨rfl, hs18, hc18⟩
          have FL := Lib.hid (st_flush hs18 (by show sC.ws + 1 < _; rw [FC.out.2.2.2.1]; omega))
          have e18 : (flD (addW (sC, (0 : Int)).1 (Int.toNat 1) p1)).2 = 0 := by
            have ha : (actD (addW sC (Int.toNat 1) p1)).2 = 0 := act_add FC.out.2.2.2.2.2 FC.out.2.2.1
            unfold flD
            rw [if_neg (fun h => h ha)]
          rw [e18] at FL
          clear hs18 hc18 W17 e18
          go_wp2_with fail
          refine FL.out.mono ?_
          rintro e w19 ⟨rfl, hs19, hc19⟩
          have S19 := Lib.hid hs19
          clear hs19 hc19 FL
          go_wp2_with fail
          go_ret
          exact ⟨rfl, S19.out.2.1⟩
end Go.Proofs.Ytlnjclabnpenmaa
