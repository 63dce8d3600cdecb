/-
  sameSet.
-/
import Derived.Test.YtoocpbpdoaplgaaDoorWtT
import Derived.BigQuiet
import Derived.Sort.Walk0
namespace Go.Proofs.YtoocpbpdoaplgaaDoor
open Go.RowKit Go.Sort
namespace Wt
theorem not_leq {x y : ByteArray} (h : y.data.toList < x.data.toList) : Op.bytesLess x.toList y.toList = false ∧ (x.toList == y.toList) = false := by
  rw [ByteArray.toList_eq, ByteArray.toList_eq]
  refine ⟨?_, ?_⟩
  · rw [bytesLess_eq, decide_eq_false_iff_not]
    exact fun q => absurd (List.lt_trans h q) (List.lt_irrefl _)
  · rw [beq_eq_false_iff_ne]
    intro e
    rw [e] at h
    exact absurd h (List.lt_irrefl _)
/-- Is it among the first j? -/
def fnd (t : ByteArray) (ls : List ByteArray) (j : Nat) : Bool := (ls.take j).any (fun z => decide (t = z))
theorem fnd_succ (t : ByteArray) (ls : List ByteArray) (j : Nat) (h : j < ls.length) : fnd t ls (j + 1) = (fnd t ls j || decide (t = ls.getD j ⟨#[]⟩)) := by
  unfold fnd
  rw [take_onez ls j ⟨#[]⟩ h, List.any_append]
  simp only [List.any_cons, List.any_nil, Bool.or_false]
set_option maxHeartbeats 16000000 in
set_option maxRecDepth 100000 in
theorem sameSet_yes (v u : Value) (F ls : List ByteArray) (w : World) (hv : Row kT w v F) (hu : Row kT w u ls) (hr : Ri F ls) (hl : F.length = ls.length) :
    Calls Tryd.prog 26 #[v, u] w fun e w' => e = .returned (.bool true) ∧ Below w.heap.size w w' := by
  have V : Hid (Row kT w v F ∧ Row kT w u ls) := Lib.hid ⟨hv, hu⟩
  have RI := Lib.hid hr
  obtain ⟨a, cap, rfl, hlc, hcm⟩ := hv.len
  obtain ⟨a', cap', rfl, hlc', hcm'⟩ := hu.len
  unfold maxLen at hcm hcm'
  rw [← hl] at hlc' V ⊢
  obtain ⟨n, hn⟩ : ∃ n, n = F.length := ⟨_, rfl⟩
  rw [← hn] at hlc hlc' V ⊢
  have HN : Hid (n = F.length ∧ n = ls.length) := Lib.hid ⟨hn, by rw [hn, hl]⟩
  clear hv hu hr hl hn
  go_enter Tryd.func26, Tryd.ntmps26
  go_wp2_with fail
  go_loopg [5] n (fun gk si wr => ∃ (k : Nat), k ≤ n ∧ gk = n - k ∧ si = .int .i64 k ∧ Hid (Below w.heap.size w wr))
  case atStart => exact ⟨0, Nat.zero_le _, rfl, rfl, Lib.hid (Below.refl _ _)⟩
  case round =>
    obtain ⟨k, hk, hgk, rfl, R⟩ := hrel
    have GK := Lib.hid hgk
    clear hgk
    obtain ⟨w1, rfl⟩ : ∃ w1, w1 = wr := ⟨_, rfl⟩
    by_cases hlt : k < n
    · have hlt' : (k : Int) < (n : Int) := by omega
      have hkF : k < F.length := by rw [← HN.out.1]; exact hlt
      obtain ⟨b, off, rfl, c0⟩ := rowT_at (V.out.1.below R.out) k hkF
      obtain ⟨t, ht⟩ : ∃ t, t = F.getD k ⟨#[]⟩ := ⟨_, rfl⟩
      have TM : Hid (t ∈ ls) := Lib.hid (by rw [ht]; exact (RI.out.2 _).1 (getD_in hkF))
      rw [← ht] at c0
      have HT := Lib.hid ht
      clear ht
      rcases Nat.eq_zero_or_pos k with hz | hz
      · have hkp : decide ((0 : Int) < (k : Int)) = false := decide_eq_false (by omega)
        have hkq : decide (0 < k) = false := decide_eq_false (by omega)
        have HZ := Lib.hid hz
        clear hz
        go_wp2_with fail
        go_quiet (fail)
        have N1 : Hid (w1.heap.size ≤ w1.heap.size) := Lib.hid (Nat.le_refl _)
        obtain ⟨W1, hW1⟩ : ∃ W, W = w1.drewN nq := ⟨_, rfl⟩
        have BW : Hid (Below w.heap.size w W1) := Lib.hid (by rw [hW1]; exact R.out.trans ((below_drawn w1 nq).mono R.out.size))
        rw [← hW1]
        clear hW1 c0 N1
        go_wp2_with fail
        go_loopg [6, 7] n (fun gj sf sj wr2 => ∃ (j : Nat), j ≤ n ∧ gj = n - j ∧ sf = .bool (fnd t ls j) ∧ sj = .int .i64 j ∧ Hid (Below w.heap.size w wr2))
        case atStart => exact ⟨0, Nat.zero_le _, rfl, by simp [fnd], rfl, BW⟩
        case round =>
          obtain ⟨j, hj, hgj, rfl, rfl, I⟩ := hrel
          have GJ := Lib.hid hgj
          clear hgj
          by_cases hjt : j < n
          · have hjt' : (j : Int) < (n : Int) := by omega
            have hjl : j < ls.length := by rw [← HN.out.2]; exact hjt
            obtain ⟨ob, oo, rfl, z0⟩ := rowT_at (V.out.2.below I.out) j hjl
            obtain ⟨ob', oo', eb, z1⟩ := rowT_at (V.out.1.below I.out) k hkF
            simp only [Option.some.injEq, Addr.mk.injEq, and_true] at eb
            obtain ⟨rfl, rfl⟩ := eb
            rw [← HT.out] at z1
            have FS := Lib.hid (fnd_succ t ls j hjl)
            obtain ⟨z, hz⟩ : ∃ z, z = ls.getD j ⟨#[]⟩ := ⟨_, rfl⟩
            rw [← hz] at z0 FS
            clear hz hjl
            have SL := same_list t z
            cases hfd : fnd t ls j with
            | true =>
              have F2 : Hid (fnd t ls (j + 1) = true) := Lib.hid (by rw [FS.out, hfd]; rfl)
              clear SL hfd
              go_wp2_with fail
              go_quiet (fail)
              go_wp2_with fail
              go_roundg (n - (j + 1))
              case measure => have := GJ.out; omega
              case rel => exact ⟨j + 1, by omega, rfl, by rw [F2.out], by go_num, Lib.hid (I.out.trans ((below_drawn wr nq).mono I.out.size))⟩
            | false =>
              have F2 : Hid (fnd t ls (j + 1) = (t.toList == z.toList)) := Lib.hid (by rw [FS.out, hfd, SL]; rfl)
              clear SL hfd
              go_wp2_with fail
              go_quiet (fail)
              go_wp2_with fail
              go_roundg (n - (j + 1))
              case measure => have := GJ.out; omega
              case rel => exact ⟨j + 1, by omega, rfl, by rw [F2.out], by go_num, Lib.hid (I.out.trans ((below_drawn wr nq).mono I.out.size))⟩
          · have hjn : ¬ (j : Int) < (n : Int) := by omega
            have FT : fnd t ls j = true := by
              unfold fnd
              rw [List.take_of_length_le (by rw [← HN.out.2]; omega)]
              exact List.any_eq_true.2 ⟨t, TM.out, by simp⟩
            rw [FT]
            clear FT
            go_wp2_with fail
            go_roundg (n - (k + 1))
            case measure => have := GK.out; omega
            case rel => exact ⟨k + 1, by omega, rfl, by go_num, I⟩
      · have hkp : (k : Int) > 0 := by omega
        obtain ⟨M, hM⟩ : ∃ M, k = M + 1 := ⟨k - 1, by omega⟩
        obtain ⟨b', off', eb, c1⟩ := rowT_at (V.out.1.below R.out) M (by omega)
        simp only [Option.some.injEq, Addr.mk.injEq, and_true] at eb
        obtain ⟨rfl, rfl⟩ := eb
        obtain ⟨t0, ht0⟩ : ∃ t, t = F.getD M ⟨#[]⟩ := ⟨_, rfl⟩
        rw [← ht0] at c1
        have hwr : IntKind.i64.wrap ((k : Int) - 1) = (M : Int) := by rw [show (k : Int) - 1 = (M : Int) by omega, IntKind.wrap_i64]; omega
        have LT : Hid (t0.data.toList < t.data.toList) := Lib.hid (by
          rw [ht0, HT.out]
          have := (List.pairwise_iff_getElem.1 RI.out.1) M k (by omega) hkF (by omega)
          rw [List.getD_eq_getElem?_getD, List.getD_eq_getElem?_getD, List.getElem?_eq_getElem hkF, List.getElem?_eq_getElem (by omega)]
          exact this)
        have hM0 : (0 : Int) ≤ (M : Int) := by omega
        have hM1 : (M : Int) < (n : Int) := by omega
        have HM := Lib.hid hM
        obtain ⟨NL0, NL1⟩ := not_leq LT.out
        clear hM ht0
        go_wp2_with fail
        go_quiet (fail)
        clear hwr hM0 hM1 c1 NL0 NL1
        have N1 : Hid (w1.heap.size ≤ w1.heap.size) := Lib.hid (Nat.le_refl _)
        obtain ⟨W1, hW1⟩ : ∃ W, W = w1.drewN nq := ⟨_, rfl⟩
        have BW : Hid (Below w.heap.size w W1) := Lib.hid (by rw [hW1]; exact R.out.trans ((below_drawn w1 nq).mono R.out.size))
        rw [← hW1]
        clear hW1 c0 N1
        go_wp2_with fail
        go_loopg [6, 7] n (fun gj sf sj wr2 => ∃ (j : Nat), j ≤ n ∧ gj = n - j ∧ sf = .bool (fnd t ls j) ∧ sj = .int .i64 j ∧ Hid (Below w.heap.size w wr2))
        case atStart => exact ⟨0, Nat.zero_le _, rfl, by simp [fnd], rfl, BW⟩
        case round =>
          obtain ⟨j, hj, hgj, rfl, rfl, I⟩ := hrel
          have GJ := Lib.hid hgj
          clear hgj
          by_cases hjt : j < n
          · have hjt' : (j : Int) < (n : Int) := by omega
            have hjl : j < ls.length := by rw [← HN.out.2]; exact hjt
            obtain ⟨ob, oo, rfl, z0⟩ := rowT_at (V.out.2.below I.out) j hjl
            obtain ⟨ob', oo', eb, z1⟩ := rowT_at (V.out.1.below I.out) k hkF
            simp only [Option.some.injEq, Addr.mk.injEq, and_true] at eb
            obtain ⟨rfl, rfl⟩ := eb
            rw [← HT.out] at z1
            have FS := Lib.hid (fnd_succ t ls j hjl)
            obtain ⟨z, hz⟩ : ∃ z, z = ls.getD j ⟨#[]⟩ := ⟨_, rfl⟩
            rw [← hz] at z0 FS
            clear hz hjl
            have SL := same_list t z
            cases hfd : fnd t ls j with
            | true =>
              have F2 : Hid (fnd t ls (j + 1) = true) := Lib.hid (by rw [FS.out, hfd]; rfl)
              clear SL hfd
              go_wp2_with fail
              go_quiet (fail)
              go_wp2_with fail
              go_roundg (n - (j + 1))
              case measure => have := GJ.out; omega
              case rel => exact ⟨j + 1, by omega, rfl, by rw [F2.out], by go_num, Lib.hid (I.out.trans ((below_drawn wr nq).mono I.out.size))⟩
            | false =>
              have F2 : Hid (fnd t ls (j + 1) = (t.toList == z.toList)) := Lib.hid (by rw [FS.out, hfd, SL]; rfl)
              clear SL hfd
              go_wp2_with fail
              go_quiet (fail)
              go_wp2_with fail
              go_roundg (n - (j + 1))
              case measure => have := GJ.out; omega
              case rel => exact ⟨j + 1, by omega, rfl, by rw [F2.out], by go_num, Lib.hid (I.out.trans ((below_drawn wr nq).mono I.out.size))⟩
          · have hjn : ¬ (j : Int) < (n : Int) := by omega
            have FT : fnd t ls j = true := by
              unfold fnd
              rw [List.take_of_length_le (by rw [← HN.out.2]; omega)]
              exact List.any_eq_true.2 ⟨t, TM.out, by simp⟩
            rw [FT]
            clear FT
            go_wp2_with fail
            go_roundg (n - (k + 1))
            case measure => have := GK.out; omega
            case rel => exact ⟨k + 1, by omega, rfl, by go_num, I⟩
    · have hkn : ¬ (k : Int) < (n : Int) := by omega
      go_wp2_with fail
      go_ret
      exact ⟨rfl, R.out⟩
end Wt
end Go.Proofs.YtoocpbpdoaplgaaDoor
