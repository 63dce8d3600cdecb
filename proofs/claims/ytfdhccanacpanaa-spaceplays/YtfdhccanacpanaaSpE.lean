/-
  New.
-/
import Derived.Test.YtfdhccanacpanaaSpA
namespace Go.Proofs.Ytfdhccanacpanaa
open Go.RowKit
/-- The states of n blocks from f on, of which those of t are old. -/
def mkS (f n : Nat) (t : List Int) : List UInt8 := (List.range n).map fun i => if ((f + i : Nat) : Int) ∈ t then 2 else 0
theorem mkS_length (f n : Nat) (t : List Int) : (mkS f n t).length = n := by simp [mkS]
theorem mkS_nil (f n : Nat) : mkS f n [] = List.replicate n 0 := by
  unfold mkS
  simp only [List.not_mem_nil, if_false]
  rw [List.map_const', List.length_range]
theorem mkS_snoc (f n : Nat) (t : List Int) (k : Nat) : mkS f n (t ++ [((f + k : Nat) : Int)]) = (mkS f n t).set k 2 := by
  apply List.ext_getElem?
  intro i
  by_cases hi : i < n
  · by_cases e : k = i
    · subst e
      rw [List.getElem?_set_self (by rw [mkS_length]; exact hi)]
      simp [mkS, hi]
    · rw [List.getElem?_set_ne e]
      have e2 : ((f + i : Nat) : Int) ≠ ((f + k : Nat) : Int) := by omega
      unfold mkS
      rw [List.getElem?_map, List.getElem?_map, List.getElem?_range hi, Option.map_some, Option.map_some]
      congr 1
      simp only [List.mem_append, List.mem_singleton, e2, or_false]
  · rw [List.getElem?_eq_none (by rw [mkS_length]; omega), List.getElem?_eq_none (by rw [List.length_set, mkS_length]; omega)]
theorem mkS_sts (f n : Nat) (t : List Int) : Sts (mkS f n t) := fun x hx => by
  obtain ⟨i, _, rfl⟩ := List.mem_map.1 hx
  split <;> simp
theorem info_state : (Try.prog.info? 54).map (fun i => (i.zero, i.size, i.bytes)) = some (some (.int .u8 0), 1, 1) := by kernel_rfl
theorem make_states (w : World) (n : Nat) (h : n ≤ 4096) :
    (Instr.makeSlice 55 (.int .i64 n) (.int .i64 n)).run Try.prog w = .ok (.slice (some ⟨w.heap.size, 0, none⟩) n n) (w.alloc (.cells (cells8 (List.replicate n 0)).toArray 54)) := by
  obtain ⟨i0, hi, hz0, hz1, hz2⟩ := info_parts info_state
  have h := run_make (P := Try.prog) w 55 54 i0 (.int .u8 0) Try.underlying55 hi hz0 .i64 .i64 (n : Int) (n : Int) (by omega) (by omega) (by rw [hz2]; omega) (by omega)
  have e : madeCells (Value.int .u8 0).cells ((n : Int).toNat * i0.size) = (cells8 (List.replicate n 0)).toArray := by
    rw [hz1, Int.toNat_natCast, Nat.mul_one]
    apply Array.ext
    · simp [size_madeCells, cells8]
    · intro k h1 h2
      simp [madeCells, cells8, Value.cells, Nat.mod_one, c8]
  rw [h, e, Int.toNat_natCast]
set_option maxHeartbeats 1000000 in
theorem new_bad (b f : Int) (v : Value) (w : World) (h : b < 0 ∨ 4096 < b ∨ f < 0 ∨ b < f) :
    Calls Try.prog 11 #[.int .i64 b, .int .i64 f, v] w fun e w' => e = .returned (.tuple #[.pointer none, .int .i64 1]) ∧ w' = w := by
  go_enter Try.func11, Try.ntmps11
  by_cases h1 : b < 0
  · have g1 : decide (b < 0) = true := decide_eq_true h1
    clear h h1
    go_wp2_with fail
    go_ret2
    exact ⟨rfl, rfl⟩
  · have g1 : decide (b < 0) = false := decide_eq_false h1
    by_cases h2 : 4096 < b
    · have g2 : decide (b > 4096) = true := decide_eq_true h2
      clear h h1 h2
      go_wp2_with fail
      go_ret2
      exact ⟨rfl, rfl⟩
    · have g2 : decide (b > 4096) = false := decide_eq_false h2
      by_cases h3 : f < 0
      · have g3 : decide (f < 0) = true := decide_eq_true h3
        clear h h1 h2 h3
        go_wp2_with fail
        go_ret2
        exact ⟨rfl, rfl⟩
      · have g3 : decide (f < 0) = false := decide_eq_false h3
        have g4 : decide (f > b) = true := decide_eq_true (by omega)
        clear h h1 h2 h3
        go_wp2_with fail
        go_ret2
        exact ⟨rfl, rfl⟩
set_option maxHeartbeats 4000000 in
theorem new_any (f n : Nat) (v : Value) (t : List Int) (w : World) (hf : f + n ≤ 4096) (hv : Ints w v t) (ht : ∀ x ∈ t, -9223372036854775808 ≤ x ∧ x < 9223372036854775808) (b : Int) (eb : b = (f : Int) + (n : Int)) :
    Calls Try.prog 11 #[.int .i64 b, .int .i64 f, v] w fun e w' =>
      (Ris (f : Int) ((f + n : Nat) : Int) t → e = .returned (.tuple #[.pointer (some ⟨w.heap.size + 1, 0, none⟩), .int .i64 0]) ∧ Sp w.heap.size w' (w.heap.size + 1) w.heap.size f (mkS f n t)) ∧
      (¬ Ris (f : Int) ((f + n : Nat) : Int) t → e = .returned (.tuple #[.pointer none, .int .i64 1])) ∧ Below w.heap.size w w' := by
  subst eb
  obtain ⟨av, cap, rfl, hlc, hcm, _, hc⟩ := hv
  unfold maxLen at hcm
  obtain ⟨N, hN⟩ : ∃ N, N = t.length := ⟨_, rfl⟩
  have HC : Hid (∀ k, k < N → ∃ b off, av = some ⟨b, off, none⟩ ∧ w.cell? ⟨b, off + k, none⟩ = some (.int .i64 (t.getD k 0))) := Lib.hid (by rw [hN]; exact hc)
  rw [← hN] at hlc ⊢
  have NN := Lib.hid hN
  have HT := Lib.hid ht
  have g1 : decide ((f : Int) + (n : Int) < 0) = false := decide_eq_false (by omega)
  have g2 : decide ((f : Int) + (n : Int) > 4096) = false := decide_eq_false (by omega)
  have g3 : decide ((f : Int) < 0) = false := decide_eq_false (by omega)
  have g4 : decide ((f : Int) > (f : Int) + (n : Int)) = false := decide_eq_false (by omega)
  have hs : (f : Int) + (n : Int) - (f : Int) = (n : Int) := by omega
  obtain ⟨X, hX⟩ : ∃ X, X = w.alloc (.cells (cells8 (List.replicate n 0)).toArray 54) := ⟨_, rfl⟩
  have hm : (Instr.makeSlice 55 (.int .i64 n) (.int .i64 n)).run Try.prog w = .ok (.slice (some ⟨w.heap.size, 0, none⟩) n n) X := by rw [hX]; exact make_states w n (by omega)
  obtain ⟨Y, hY⟩ : ∃ Y, Y = X.alloc (.cells #[.int .i64 f, .slice (some ⟨w.heap.size, 0, none⟩) n n] 57) := ⟨_, rfl⟩
  have hXs : X.heap.size = w.heap.size + 1 := by rw [hX]; simp
  have SY : Hid (Sp w.heap.size Y (w.heap.size + 1) w.heap.size f (mkS f n []) ∧ Below w.heap.size w Y) := Lib.hid (by
    refine ⟨⟨?_, ?_, by rw [mkS_length]; omega, by omega, mkS_sts _ _ _, by omega, Nat.le_refl _⟩, ?_⟩
    · rw [hY, ← hXs, heap_alloc_new, mkS_length]
    · rw [hY, Below.heap_alloc _ _ _ (by omega), hX, heap_alloc_new, mkS_nil]
    · rw [hY, hX]; exact ((Below.refl _ _).alloc (Nat.le_refl _) _).alloc (by simp) _)
  have hY' := hY.symm
  clear hN hc ht hX hY
  obtain ⟨e, he⟩ : ∃ e : Int, e = ((f + n : Nat) : Int) := ⟨_, rfl⟩
  rw [← he]
  have EE := Lib.hid he
  obtain ⟨d, hd⟩ : ∃ d, d = w.heap.size + 1 := ⟨_, rfl⟩
  rw [← hd] at SY hXs ⊢
  clear he hd
  go_enter Try.func11, Try.ntmps11
  go_wp2_with fail
  clear hm hY' g1 g2 g3 g4 hs hXs
  go_loopg [9, 38] N (fun g sl si wr => ∃ (k : Nat) (la : Int), k ≤ N ∧ g = N - k ∧ si = .int .i64 k ∧ sl = .int .i64 la ∧ ((f : Int) - 1 ≤ la ∧ la ≤ 9223372036854775806) ∧ (Ris (f : Int) e t ↔ Ris (la + 1) e (t.drop k)) ∧ Sp w.heap.size wr d w.heap.size f (mkS f n (t.take k)) ∧ Below w.heap.size w wr)
  case atStart => exact ⟨0, (f : Int) - 1, Nat.zero_le _, rfl, rfl, rfl, by omega, by rw [List.drop_zero, Int.sub_add_cancel], by rw [List.take_zero]; exact SY.out.1, SY.out.2⟩
  case round =>
    obtain ⟨k, la, hk, hg, rfl, rfl, hla, hr, hsp, hb⟩ := hrel
    have G := Lib.hid hg
    have R := Lib.hid hr
    have S := Lib.hid hsp
    have Bl := Lib.hid hb
    clear hg hr hsp hb
    by_cases hlt : k < N
    · have hlt' : (k : Int) < (N : Int) := by omega
      obtain ⟨b0, off, ha, c1⟩ := HC.out k hlt
      subst ha
      have c2 := (Bl.out.cell (block_lt_of_cell c1)).trans c1
      obtain ⟨x, hx⟩ : ∃ x, x = t.getD k 0 := ⟨_, rfl⟩
      rw [← hx] at c2
      have hkt : k < t.length := by rw [← NN.out]; exact hlt
      have ex : t[k]? = some x := by rw [hx, List.getD_eq_getElem?_getD, List.getElem?_eq_getElem hkt, Option.getD_some]
      have ed : t.drop k = x :: t.drop (k + 1) := by
        rw [List.drop_eq_getElem_cons hkt]
        congr 1
        rw [List.getElem?_eq_getElem hkt] at ex
        simpa using ex
      have hb := HT.out x (List.mem_of_getElem? ex)
      have R' : Hid (Ris (f : Int) e t ↔ (la + 1 ≤ x ∧ x < e ∧ Ris (x + 1) e (t.drop (k + 1)))) := Lib.hid (by rw [R.out, ed]; exact Iff.rfl)
      have X := Lib.hid ex
      clear hx hkt ex ed c1 R
      by_cases q1 : x ≤ la
      · have g1 : decide (x ≤ la) = true := decide_eq_true q1
        clear hb
        go_wp2_with fail
        go_ret2
        refine ⟨fun h => ?_, fun _ => rfl, Bl.out⟩
        have := (R'.out.1 h).1
        omega
      · have g1 : decide (x ≤ la) = false := decide_eq_false q1
        have HA := Lib.hid (has_any S.out x hb)
        clear hb
        go_wp2_with fail
        refine HA.out.mono ?_
        rintro _ w' ⟨rfl, hb'⟩
        have S' := Lib.hid (S.out.below hb')
        have Bl' := Lib.hid (Bl.out.trans (hb'.mono Bl.out.size))
        clear hb' S Bl HA
        rw [mkS_length]
        rw [← EE.out]
        by_cases q2 : (f : Int) ≤ x ∧ x < e
        · obtain ⟨i, hi⟩ : ∃ i : Nat, x = (f : Int) + (i : Int) := ⟨(x - f).toNat, by omega⟩
          have q3 : (i : Int) < (n : Int) := by have := EE.out; omega
          have Q2 := Lib.hid q2.2
          have ed : decide ((f : Int) ≤ x ∧ x < e) = true := decide_eq_true q2
          rw [ed]
          clear ed q2
          subst hi
          have hs : (f : Int) + (i : Int) - (f : Int) = (i : Int) := by omega
          have p1 := S'.out.c1
          rw [mkS_length] at p1
          have p2 := S'.out.free i
          obtain ⟨y, hy⟩ : ∃ y, (mkS f n (t.take k))[i]? = some y := ⟨_, List.getElem?_eq_getElem (by rw [mkS_length]; omega)⟩
          have p3 := S'.out.at i y hy
          obtain ⟨n8, h8⟩ : ∃ n8, n8 = c8 y := ⟨_, rfl⟩
          rw [← h8] at p3
          clear h8 hy c2
          go_wp2_with fail
          go_roundg (N - (k + 1))
          case measure => have := G.out; omega
          case rel =>
            refine ⟨k + 1, (f : Int) + (i : Int), by omega, rfl, by go_num, rfl, by omega, ?_, ?_, ?_⟩
            · rw [R'.out]
              exact ⟨fun h => h.2.2, fun h => ⟨by omega, Q2.out, h⟩⟩
            · rw [List.take_add_one, X.out, Option.toList_some]
              have e2 : (f : Int) + (i : Int) = ((f + i : Nat) : Int) := by omega
              rw [e2, mkS_snoc]
              exact S'.out.set i 2 2 rfl (by simp)
            · exact Bl'.out.setCell (p := ⟨w.heap.size, i, none⟩) (Nat.le_refl _) _
        · have ed : decide ((f : Int) ≤ x ∧ x < e) = false := decide_eq_false q2
          rw [ed]
          have Q2 := Lib.hid q2
          clear ed q2
          go_wp2_with fail
          go_ret2
          refine ⟨fun h => ?_, fun _ => rfl, Bl'.out⟩
          have := R'.out.1 h
          exact absurd ⟨by omega, this.2.1⟩ Q2.out
    · have hge : ¬ (k : Int) < (N : Int) := by omega
      have EK : Hid (k = t.length) := Lib.hid (by rw [← NN.out]; omega)
      go_wp2_with fail
      go_ret2
      have hS := S.out
      have hR := R.out
      rw [EK.out] at hS hR
      rw [List.take_length] at hS
      rw [List.drop_length] at hR
      exact ⟨fun _ => ⟨rfl, hS⟩, fun h => absurd (hR.2 trivial) h, Bl.out⟩
end Go.Proofs.Ytfdhccanacpanaa
