/-
  The statements' own: own, same, proper, turned.
-/
import Derived.Test.YtfljbipnjfciaaaBuA
import Derived.RegionTactic
import Derived.BigRegion
import Derived.Laws.OwnMore
namespace Go.Proofs.Ytfljbipnjfciaaa
open Go.RowKit Go.Maps
theorem take_one8 (l : List UInt8) (k : Nat) (h : k < l.length) : l.take (k + 1) = l.take k ++ [l.getD k 0] := by
  rw [List.take_add_one, List.getElem?_eq_getElem h, Option.toList_some, List.getD_eq_getElem?_getD, List.getElem?_eq_getElem h, Option.getD_some]
set_option maxRecDepth 100000 in
set_option maxHeartbeats 1000000 in
theorem ownW_any (v : Value) (l : List UInt8) (w : World) (hv : Bytes w v l) (hl : l.length ≤ 140737488355300) :
    Calls Try.prog 22 #[v] w fun e w' => ∃ v', e = .returned v' ∧ Own w.heap.size w' v' l ∧ Below w.heap.size w w' := by
  obtain ⟨a, cap, rfl, hlc, hcm, _, hc⟩ := hv
  unfold maxLen at hcm
  obtain ⟨n, hn⟩ : ∃ n, n = l.length := ⟨_, rfl⟩
  have HC : Hid (∀ k, k < n → ∃ b off, a = some ⟨b, off, none⟩ ∧ w.cell? ⟨b, off + k, none⟩ = some (.int .u8 (c8 (l.getD k 0)))) := Lib.hid (by rw [hn]; exact hc)
  rw [← hn] at hlc hl ⊢
  have NN := Lib.hid hn
  clear hn hc
  go_enter Try.func22, Try.ntmps22
  go_wp2_with fail
  go_loopg [3, 4] n (fun g sv si wr => ∃ (k : Nat), k ≤ n ∧ g = n - k ∧ si = .int .i64 k ∧ Own w.heap.size wr sv (l.take k) ∧ Below w.heap.size w wr)
  case atStart => exact ⟨0, Nat.zero_le _, rfl, rfl, World.ownsRow_nil _ _ _ _, Below.refl _ _⟩
  case round =>
    obtain ⟨k, hk, hg, rfl, ho, hb⟩ := hrel
    have O := Lib.hid ho
    have Bl := Lib.hid hb
    have G := Lib.hid hg
    clear ho hg hb
    by_cases hlt : k < n
    · obtain ⟨b, off, rfl, p0⟩ := HC.out k hlt
      have r0 := (Bl.out.cell (block_lt_of_cell p0)).trans p0
      obtain ⟨x, hx⟩ : ∃ x, x = l.getD k 0 := ⟨_, rfl⟩
      rw [← hx] at r0
      have T : Hid (l.take (k + 1) = l.take k ++ [x]) := Lib.hid (by rw [hx]; exact take_one8 l k (by rw [← NN.out]; exact hlt))
      have L : Hid ((l.take k).length < 140737488355328) := Lib.hid (by rw [List.length_take]; omega)
      obtain ⟨n8, h8⟩ : ∃ n8, n8 = c8 x := ⟨_, rfl⟩
      rw [← h8] at r0
      have E8 := Lib.hid h8
      clear hx p0 h8
      have hlt' : (k : Int) < (n : Int) := by omega
      go_wp2_with (at_builtin; refine app_byte rfl _ _ rfl rfl O.out Bl.out.size _ x E8.out rfl L.out ?_)
      intro v' W' o1 o2 _
      have A : Hid (Own w.heap.size W' v' (l.take (k + 1)) ∧ Below w.heap.size w W') := Lib.hid ⟨by rw [T.out]; exact o1, Bl.out.trans (grown_below o2 O.out Bl.out.size)⟩
      clear o1 o2
      go_wp2_with fail
      go_roundg (n - (k + 1))
      case measure => have := G.out; omega
      case rel => exact ⟨k + 1, by omega, rfl, by go_num, A.out⟩
    · have hge : ¬ (k : Int) < (n : Int) := by omega
      have EK : Hid (l.take k = l) := Lib.hid (List.take_of_length_le (by rw [← NN.out]; omega))
      go_wp2_with fail
      go_ret
      have := O.out
      rw [EK.out] at this
      exact ⟨_, rfl, this, Bl.out⟩
set_option maxHeartbeats 400000 in
theorem sameW_any (v v' : Value) (l m : List UInt8) (w : World) (hv : Bytes w v l) (hv' : Bytes w v' m) :
    Calls Try.prog 25 #[v, v'] w fun e w' => e = .returned (.bool (decide (l = m))) ∧ w' = w := by
  have h1 := convT hv
  have h2 := convT hv'
  go_enter Try.func25, Try.ntmps25
  go_wp2
  go_ret
  exact ⟨congrArg (fun b => Ending.returned (.bool b)) (txt_beq l m), rfl⟩
/-- A group and its payload. -/
def propB (g : Grp) (n : Nat) : Bool := valG g && decide ((n : Int) = shG g)
set_option maxRecDepth 100000 in
set_option maxHeartbeats 4000000 in
theorem proper_any (g : Grp) (v : Value) (p : List UInt8) (w : World) (hv : Bytes w v p) :
    Calls Try.prog 23 #[.agg g.arr, v] w fun e w' => e = .returned (.bool (propB g p.length)) ∧ Below w.heap.size w w' := by
  obtain ⟨a, cap, rfl, hlc, hcm, _, _⟩ := hv
  unfold maxLen at hcm
  obtain ⟨n, hn⟩ : ∃ n, n = p.length := ⟨_, rfl⟩
  rw [← hn] at hlc ⊢
  clear hn
  obtain ⟨ep, st, ix, tot, by_⟩ := g
  have NV : ∀ (h : ¬ Val ⟨ep, st, ix, tot, by_⟩), propB ⟨ep, st, ix, tot, by_⟩ n = false := fun h => by
    unfold propB
    have : valG ⟨ep, st, ix, tot, by_⟩ = false := Bool.eq_false_iff.2 fun q => h ((val_iff _).1 q)
    rw [this, Bool.false_and]
  have NVH := Lib.hid NV
  unfold Grp.arr
  simp only
  obtain ⟨X, hX⟩ : ∃ X, X = w.alloc (.cells #[.int .i64 ep, .int .i64 st, .int .i64 ix, .int .i64 tot, .int .i64 by_] 51) := ⟨_, rfl⟩
  have B : Hid (Below w.heap.size w X) := Lib.hid (by rw [hX]; exact (Below.refl _ _).alloc (Nat.le_refl _) _)
  have z0 : X.cell? ⟨w.heap.size, 0, none⟩ = some (.int .i64 ep) := by rw [hX, World.cell?_alloc_new]; rfl
  have z1 : X.cell? ⟨w.heap.size, 1, none⟩ = some (.int .i64 st) := by rw [hX, World.cell?_alloc_new]; rfl
  have z2 : X.cell? ⟨w.heap.size, 2, none⟩ = some (.int .i64 ix) := by rw [hX, World.cell?_alloc_new]; rfl
  have z3 : X.cell? ⟨w.heap.size, 3, none⟩ = some (.int .i64 tot) := by rw [hX, World.cell?_alloc_new]; rfl
  have z4 : X.cell? ⟨w.heap.size, 4, none⟩ = some (.int .i64 by_) := by rw [hX, World.cell?_alloc_new]; rfl
  have hX' := hX.symm
  clear hX NV
  go_enter Try.func23, Try.ntmps23
  by_cases q1 : tot < 1
  · have fq1 : decide (tot < 1) = true := decide_eq_true q1
    have E := Lib.hid (NVH.out fun h => by have := h.t1; simp only at this; omega)
    clear NVH
    go_wp2_with fail
    go_ret
    exact ⟨congrArg (fun b => Ending.returned (.bool b)) E.out.symm, B.out⟩
  · have fq1 : decide (tot < 1) = false := decide_eq_false q1
    by_cases q2 : 512 < tot
    · have fq2 : decide (tot > 512) = true := decide_eq_true q2
      have E := Lib.hid (NVH.out fun h => by have := h.t2; simp only at this; omega)
      clear NVH
      go_wp2_with fail
      go_ret
      exact ⟨congrArg (fun b => Ending.returned (.bool b)) E.out.symm, B.out⟩
    · have fq2 : decide (tot > 512) = false := decide_eq_false q2
      by_cases q3 : ix < 0
      · have fq3 : decide (ix < 0) = true := decide_eq_true q3
        have E := Lib.hid (NVH.out fun h => by have := h.i1; simp only at this; omega)
        clear NVH
        go_wp2_with fail
        go_ret
        exact ⟨congrArg (fun b => Ending.returned (.bool b)) E.out.symm, B.out⟩
      · have fq3 : decide (ix < 0) = false := decide_eq_false q3
        by_cases q4 : tot ≤ ix
        · have fq4 : decide (ix ≥ tot) = true := decide_eq_true q4
          have E := Lib.hid (NVH.out fun h => by have := h.i2; simp only at this; omega)
          clear NVH
          go_wp2_with fail
          go_ret
          exact ⟨congrArg (fun b => Ending.returned (.bool b)) E.out.symm, B.out⟩
        · have fq4 : decide (ix ≥ tot) = false := decide_eq_false q4
          by_cases q5 : ep < 1
          · have fq5 : decide (ep < 1) = true := decide_eq_true q5
            have E := Lib.hid (NVH.out fun h => by have := h.e1; simp only at this; omega)
            clear NVH
            go_wp2_with fail
            go_ret
            exact ⟨congrArg (fun b => Ending.returned (.bool b)) E.out.symm, B.out⟩
          · have fq5 : decide (ep < 1) = false := decide_eq_false q5
            by_cases q6 : 1152921504606846976 < ep
            · have fq6 : decide (ep > 1152921504606846976) = true := decide_eq_true q6
              have E := Lib.hid (NVH.out fun h => by have := h.e2; simp only at this; omega)
              clear NVH
              go_wp2_with fail
              go_ret
              exact ⟨congrArg (fun b => Ending.returned (.bool b)) E.out.symm, B.out⟩
            · have fq6 : decide (ep > 1152921504606846976) = false := decide_eq_false q6
              by_cases q7 : st < 1
              · have fq7 : decide (st < 1) = true := decide_eq_true q7
                have E := Lib.hid (NVH.out fun h => by have := h.s1; simp only at this; omega)
                clear NVH
                go_wp2_with fail
                go_ret
                exact ⟨congrArg (fun b => Ending.returned (.bool b)) E.out.symm, B.out⟩
              · have fq7 : decide (st < 1) = false := decide_eq_false q7
                by_cases q8 : 1152921504606846976 < st
                · have fq8 : decide (st > 1152921504606846976) = true := decide_eq_true q8
                  have E := Lib.hid (NVH.out fun h => by have := h.s2; simp only at this; omega)
                  clear NVH
                  go_wp2_with fail
                  go_ret
                  exact ⟨congrArg (fun b => Ending.returned (.bool b)) E.out.symm, B.out⟩
                · have fq8 : decide (st > 1152921504606846976) = false := decide_eq_false q8
                  obtain ⟨T, hT⟩ : ∃ T : Nat, tot = (T : Int) := ⟨tot.toNat, by omega⟩
                  subst hT
                  have m1 : 464 * ((T : Int) - 1) = 464 * (T : Int) - 464 := by omega
                  by_cases q9 : by_ ≤ 464 * (T : Int) - 464
                  · have fq9 : decide (by_ ≤ 464 * (T : Int) - 464) = true := decide_eq_true q9
                    have E := Lib.hid (NVH.out fun h => by have := h.b1; simp only at this; omega)
                    clear NVH
                    go_wp2_with fail
                    go_ret
                    exact ⟨congrArg (fun b => Ending.returned (.bool b)) E.out.symm, B.out⟩
                  · have fq9 : decide (by_ ≤ 464 * (T : Int) - 464) = false := decide_eq_false q9
                    by_cases q10 : 464 * (T : Int) < by_
                    · have fq10 : decide (by_ > 464 * (T : Int)) = true := decide_eq_true q10
                      have E := Lib.hid (NVH.out fun h => by have := h.b2; simp only at this; omega)
                      clear NVH
                      go_wp2_with fail
                      go_ret
                      exact ⟨congrArg (fun b => Ending.returned (.bool b)) E.out.symm, B.out⟩
                    · have fq10 : decide (by_ > 464 * (T : Int)) = false := decide_eq_false q10
                      have PB : Hid (propB ⟨ep, st, ix, (T : Int), by_⟩ n = decide ((n : Int) = shG ⟨ep, st, ix, (T : Int), by_⟩)) := Lib.hid (by
                        unfold propB
                        rw [(val_iff _).2 ⟨by simp only; omega, by simp only; omega, by simp only; omega, by simp only; omega, by simp only; omega, by simp only; omega, by simp only; omega, by simp only; omega, by simp only; omega, by simp only; omega⟩, Bool.true_and])
                      clear NVH
                      by_cases q11 : ix < (T : Int) - 1
                      · have SH : Hid (shG ⟨ep, st, ix, (T : Int), by_⟩ = 464) := Lib.hid (by unfold shG; simp only; omega)
                        go_wp2_with fail
                        go_ret
                        rw [PB.out, SH.out]
                        refine ⟨congrArg (fun b => Ending.returned (.bool b)) ?_, B.out⟩
                        rfl
                      · have SH : Hid (shG ⟨ep, st, ix, (T : Int), by_⟩ = by_ - (464 * (T : Int) - 464)) := Lib.hid (by unfold shG; simp only; omega)
                        go_wp2_with fail
                        go_ret
                        rw [PB.out, SH.out]
                        refine ⟨congrArg (fun b => Ending.returned (.bool b)) ?_, B.out⟩
                        rfl
theorem own_put8 {B : Nat} {w : World} {g n cap : Nat} {c : List UInt8} (h : Own B w (.slice (some ⟨g, 0, none⟩) n cap) c) (q : Nat) (z : UInt8) :
    Own B (w.setCell ⟨g, q, none⟩ (.int .u8 (c8 z))).drew (.slice (some ⟨g, 0, none⟩) n cap) (c.set q z) := by
  have hn : n = c.length := by
    obtain ⟨_, ⟨hv, _⟩ | ⟨g', cap', cur, hv, _⟩⟩ := h
    · simp at hv
    · simp only [Value.slice.injEq] at hv; exact hv.2.1
  subst hn
  have h1 : w.ownsRow B 5 1 (.slice (some ⟨g, 0, none⟩) c.length cap) c.length (cells8 c) := h
  have h2 := (h1.stored q (.int .u8 (c8 z))).1.drew
  have e : (cells8 c).set q (.int .u8 (c8 z)) = cells8 (c.set q z) := by simp [cells8, List.map_set]
  rw [e] at h2
  show World.ownsRow _ _ _ _ _ _ _
  rw [List.length_set]; exact h2
theorem tu_c8 (y : UInt8) (r : Nat) (hr : r < 8) : bits .xor .u8 (c8 y) (2 ^ r % 256) = c8 (tuB y r) := Sm.u8_turn y.toBitVec r hr
end Go.Proofs.Ytfljbipnjfciaaa
