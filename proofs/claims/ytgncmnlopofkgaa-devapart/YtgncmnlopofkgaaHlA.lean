/-
  The statements' own: full, same, sameInts, lives.
-/
import Derived.Test.YtgncmnlopofkgaaWrB
import Derived.Test.YtgncmnlopofkgaaMeA
import Derived.Test.YtgncmnlopofkgaaPnA
namespace Go.Proofs.Ytgncmnlopofkgaa
open Go.RowKit Go.Maps
theorem txt_beq (l m : List UInt8) : ((txt l).toList == (txt m).toList) = decide (l = m) := by
  have h : ∀ x : List UInt8, (txt x).toList = x := fun x => by rw [ByteArray.toList_eq]; simp [txt]
  rw [h, h]
  by_cases e : l = m
  · simp [e]
  · rw [decide_eq_false e, beq_eq_false_iff_ne]; exact e
set_option maxHeartbeats 400000 in
theorem same_any (v v' : Value) (l m : List UInt8) (w : World) (hv : Bytes w v l) (hv' : Bytes w v' m) :
    Calls Try.prog 8 #[v, v'] w fun e w' => e = .returned (.bool (decide (l = m))) ∧ w' = w := by
  have h1 := convT hv
  have h2 := convT hv'
  go_enter Try.func8, Try.ntmps8
  go_wp2
  go_ret
  exact ⟨congrArg (fun b => Ending.returned (.bool b)) (txt_beq l m), rfl⟩
theorem own_of {B : Nat} {w : World} {g n : Nat} {l : List UInt8} (h : w.heap[g]? = some (.cells (cells8 l).toArray 5 (0, 0))) (hB : B ≤ g) (hn : l.length = n) (hm : n ≤ maxLen) : Own B w (.slice (some ⟨g, 0, none⟩) n n) l := by
  subst hn
  refine ⟨by rw [cells8_length, Nat.mul_one], .inr ⟨g, l.length, _, rfl, hB, h, Nat.le_refl _, hm, by simp [cells8_length], ?_⟩⟩
  rw [Nat.mul_one]
  exact List.take_of_length_le (by simp [cells8_length])
/-- The first k bytes are c, the others 0. -/
def fillK (c : UInt8) (k : Nat) (n : Nat) : List UInt8 := List.replicate k c ++ List.replicate (n - k) 0
theorem fill_next (c : UInt8) (k n : Nat) (h : k < n) : (cells8 (fillK c k n)).toArray.setIfInBounds k (.int .u8 (c8 c)) = (cells8 (fillK c (k + 1) n)).toArray := by
  apply Array.ext'
  simp only [Array.toList_setIfInBounds]
  have e : fillK c (k + 1) n = (fillK c k n).set k c := by
    unfold fillK
    apply List.ext_getElem?
    intro j
    by_cases h1 : j < k
    · rw [List.getElem?_set_ne (by omega), List.getElem?_append_left (by simp; omega), List.getElem?_append_left (by simpa using h1), List.getElem?_replicate, List.getElem?_replicate, if_pos h1, if_pos (by omega)]
    · by_cases h2 : j = k
      · subst h2
        rw [List.getElem?_set_self (by simp; omega), List.getElem?_append_left (by simp), List.getElem?_replicate, if_pos (by omega)]
      · rw [List.getElem?_set_ne (by omega), List.getElem?_append_right (by simp; omega), List.getElem?_append_right (by simp; omega)]
        simp only [List.length_replicate, List.getElem?_replicate]
        by_cases h3 : j < n
        · rw [if_pos (by omega), if_pos (by omega)]
        · rw [if_neg (by omega), if_neg (by omega)]
  rw [e]
  unfold cells8
  rw [List.map_set]
theorem fill_length (c : UInt8) (k n : Nat) (h : k ≤ n) : (fillK c k n).length = n := by simp [fillK]; omega
theorem fill_all (c : UInt8) (n : Nat) : fillK c n n = List.replicate n c := by simp [fillK]
set_option maxHeartbeats 1000000 in
theorem full_any (c : UInt8) (w : World) : Calls Try.prog 6 #[.int .u8 (c8 c)] w fun e w' => e = .returned (.slice (some ⟨w.heap.size, 0, none⟩) 512 512) ∧ Own w.heap.size w' (.slice (some ⟨w.heap.size, 0, none⟩) 512 512) (List.replicate 512 c) ∧ Below w.heap.size w w' := by
  obtain ⟨N, hN⟩ : ∃ N, N = 512 := ⟨_, rfl⟩
  obtain ⟨X, hX⟩ : ∃ X, X = w.alloc (.cells (madeCells #[.int .u8 0] 512) 5) := ⟨_, rfl⟩
  have hm : (Instr.makeSlice 24 (.int .i64 512) (.int .i64 512)).run Try.prog w = .ok (.slice (some ⟨w.heap.size, 0, none⟩) 512 512) X := by rw [hX]; exact make_bytes w 512 512 rfl rfl (Nat.le_refl _) (by decide)
  have hB : Hid (Below w.heap.size w X) := Lib.hid (by rw [hX]; exact (Below.refl _ _).alloc (Nat.le_refl _) _)
  have gX : Hid (X.heap[w.heap.size]? = some (.cells (cells8 (fillK c 0 N)).toArray 5 (0, 0))) := Lib.hid (by rw [hX, heap_alloc_new, ← hN, made_zeros]; simp [fillK])
  have NN := Lib.hid hN
  have e : List.replicate 512 c = fillK c N N := by rw [fill_all, hN]
  rw [e]
  obtain ⟨n8, h8⟩ : ∃ n8, n8 = c8 c := ⟨_, rfl⟩
  rw [← h8]
  have H8 := Lib.hid h8
  clear hX hN e h8
  go_enter Try.func6, Try.ntmps6
  go_wp2_with fail
  clear hm
  go_loopg [4] N (fun g si wr => ∃ (k : Nat), k ≤ N ∧ g = N - k ∧ si = .int .i64 k ∧ wr.heap[w.heap.size]? = some (.cells (cells8 (fillK c k N)).toArray 5 (0, 0)) ∧ Below w.heap.size w wr)
  case atStart => exact ⟨0, Nat.zero_le _, rfl, rfl, gX.out, hB.out⟩
  case round =>
    obtain ⟨k, hk, hg, rfl, hp, hb⟩ := hrel
    by_cases hlt : k < N
    · have R : Aside (gk = N - k ∧ wr.heap[w.heap.size]? = some (.cells (cells8 (fillK c k N)).toArray 5 (0, 0)) ∧ Below w.heap.size w wr) := ⟨hg, hp, hb⟩
      have hlt' : (k : Int) < 512 := by have := NN.out; omega
      have c1 : ∃ u, wr.cell? ⟨w.heap.size, k, none⟩ = some u := by
        rw [cell_of_row wr _ _ _ _ _ hp]
        exact ⟨_, Array.getElem?_eq_getElem (by simp only [List.size_toArray, cells8_length, fill_length c k N hk]; exact hlt)⟩
      obtain ⟨u, c1⟩ := c1
      have c2 : wr.frozen? ⟨w.heap.size, k, none⟩ = false := frozen_of_row wr _ _ _ _ hp
      clear hg hp hb
      go_wp2_with fail
      go_roundg (N - (k + 1))
      case measure => have := R.out.1; omega
      case rel => exact ⟨k + 1, by omega, rfl, by go_num, by rw [heap_setCell_same _ _ _ _ _ _ R.out.2.1, H8.out, fill_next c k N hlt], R.out.2.2.setCell (p := ⟨w.heap.size, k, none⟩) (Nat.le_refl _) _⟩
    · have ek : k = N := by omega
      have hge : ¬ (k : Int) < 512 := by have := NN.out; omega
      have R : Aside (k = N ∧ wr.heap[w.heap.size]? = some (.cells (cells8 (fillK c k N)).toArray 5 (0, 0)) ∧ Below w.heap.size w wr) := ⟨ek, hp, hb⟩
      clear hg hp hb ek
      go_wp2_with fail
      go_ret
      refine ⟨rfl, ?_, R.out.2.2⟩
      have h := R.out.2.1
      rw [R.out.1] at h
      exact own_of h (Nat.le_refl _) (by rw [fill_length c N N (Nat.le_refl _)]; exact NN.out) (by unfold maxLen; omega)
/-- The slice v holds the numbers l. -/
def Ints (w : World) (v : Value) (l : List Int) : Prop :=
  ∃ a cap, v = .slice a l.length cap ∧ l.length ≤ cap ∧ cap ≤ maxLen ∧ ∀ k, k < l.length → ∃ b off, a = some ⟨b, off, none⟩ ∧ w.cell? ⟨b, off + k, none⟩ = some (.int .i64 (l.getD k 0))
theorem OwnI.ints {B : Nat} {w : World} {v : Value} {l : List Int} (H : OwnI B w v l) : Ints w v l := by
  obtain ⟨_, ⟨hv, hn⟩ | ⟨g, cap, cur, hv, hb, hg, hn, hm, hs, ht⟩⟩ := H
  · exact ⟨none, 0, by rw [hv, hn], by omega, by decide, fun k hk => by omega⟩
  · refine ⟨_, cap, hv, hn, hm, fun k hk => ⟨g, 0, rfl, ?_⟩⟩
    rw [cell_of_row w g (0 + k) cur _ _ hg, Nat.zero_add, ← Array.getElem?_toList]
    have h1 : (cur.toList.take (l.length * 1))[k]? = cur.toList[k]? := by rw [List.getElem?_take_of_lt (by omega)]
    rw [← h1, ht]
    simp [cellsI, hk]
theorem Ints.below {w w' : World} {v : Value} {l : List Int} (H : Ints w v l) (hb : Below w.heap.size w w') : Ints w' v l := by
  obtain ⟨a, cap, e, h1, h2, h3⟩ := H
  refine ⟨a, cap, e, h1, h2, fun k hk => ?_⟩
  obtain ⟨b, off, ea, hc⟩ := h3 k hk
  exact ⟨b, off, ea, by rw [hb.cell (p := ⟨b, off + k, none⟩) (block_lt_of_cell hc)]; exact hc⟩
set_option maxHeartbeats 1000000 in
theorem sameInts_yes (v v' : Value) (l : List Int) (w : World) (hv : Ints w v l) (hv' : Ints w v' l) :
    Calls Try.prog 44 #[v, v'] w fun e w' => e = .returned (.bool true) ∧ Below w.heap.size w w' := by
  have V : Aside (Ints w v l ∧ Ints w v' l) := ⟨hv, hv'⟩
  obtain ⟨a, cap, rfl, hlc, hcm, hc⟩ := hv
  obtain ⟨a', cap', rfl, hlc', hcm', hc'⟩ := hv'
  unfold maxLen at hcm hcm'
  obtain ⟨n, hn⟩ : ∃ n, n = l.length := ⟨_, rfl⟩
  rw [← hn] at hlc hlc' ⊢
  have HC : Aside ((∀ k, k < n → ∃ b off, a = some ⟨b, off, none⟩ ∧ w.cell? ⟨b, off + k, none⟩ = some (.int .i64 (l.getD k 0))) ∧ (∀ k, k < n → ∃ b off, a' = some ⟨b, off, none⟩ ∧ w.cell? ⟨b, off + k, none⟩ = some (.int .i64 (l.getD k 0)))) := by rw [hn]; exact ⟨hc, hc'⟩
  clear hn hc hc'
  go_enter Try.func44, Try.ntmps44
  go_wp2_with fail
  go_loopg [5] n (fun g si wr => ∃ (k : Nat), k ≤ n ∧ g = n - k ∧ si = .int .i64 k ∧ Below w.heap.size w wr)
  case atStart => exact ⟨0, Nat.zero_le _, rfl, rfl, Below.refl _ _⟩
  case round =>
    obtain ⟨k, hk, hg, rfl, hb⟩ := hrel
    have R : Aside (gk = n - k ∧ Below w.heap.size w wr) := ⟨hg, hb⟩
    clear hg hb
    by_cases hlt : k < n
    · obtain ⟨b, off, rfl, p0⟩ := HC.out.1 k hlt
      obtain ⟨b', off', rfl, q0⟩ := HC.out.2 k hlt
      have r0 : wr.cell? ⟨b, off + k, none⟩ = some (.int .i64 (l.getD k 0)) := (R.out.2.cell (block_lt_of_cell p0)).trans p0
      have r1 : wr.cell? ⟨b', off' + k, none⟩ = some (.int .i64 (l.getD k 0)) := (R.out.2.cell (block_lt_of_cell q0)).trans q0
      obtain ⟨x, hx⟩ : ∃ x, x = l.getD k 0 := ⟨_, rfl⟩
      rw [← hx] at r0 r1
      clear hx p0 q0
      have hlt' : (k : Int) < (n : Int) := by omega
      go_wp2_with fail
      go_quiet (fail)
      go_wp2_with fail
      go_roundg (n - (k + 1))
      case measure => have := R.out.1; omega
      case rel => exact ⟨k + 1, by omega, rfl, by go_num, R.out.2.trans ⟨rfl, rfl, rfl, Nat.le_refl _, fun _ _ => rfl⟩⟩
    · go_wp2_with fail
      go_ret
      exact ⟨rfl, R.out.2⟩
end Go.Proofs.Ytgncmnlopofkgaa
