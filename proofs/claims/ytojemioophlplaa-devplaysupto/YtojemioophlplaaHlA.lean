/-
  The statements' own: full, same, sameInts, lives.
-/
import Derived.Test.YtojemioophlplaaWrB
import Derived.Test.YtojemioophlplaaMeA
import Derived.Test.YtojemioophlplaaPnA
namespace Go.Proofs.Ytojemioophlplaa
open Go.RowKit Go.Maps
theorem txt_beq (l m : List UInt8) : ((txt l).toList == (txt m).toList) = decide (l = m) := by
  have h : ∀ x : List UInt8, (txt x).toList = x := fun x => by rw [ByteArray.toList_eq]; simp [txt]
  rw [h, h]
  by_cases e : l = m
  · simp [e]
  · rw [decide_eq_false e, beq_eq_false_iff_ne]; exact e
set_option maxHeartbeats 400000 in
theorem same_any (v v' : Value) (l m : List UInt8) (w : World) (hv : Bytes w v l) (hv' : Bytes w v' m) :
    Calls Try.prog 12 #[v, v'] w fun e w' => e = .returned (.bool (decide (l = m))) ∧ w' = w := by
  have h1 := convT hv
  have h2 := convT hv'
  go_enter Try.func12, Try.ntmps12
  go_wp2
  go_ret
  exact ⟨congrArg (fun b => Ending.returned (.bool b)) (txt_beq l m), rfl⟩
theorem own_of {B : Nat} {w : World} {g n : Nat} {l : List UInt8} (h : w.heap[g]? = some (.cells (cells8 l).toArray 5 (0, 0))) (hB : B ≤ g) (hn : l.length = n) (hm : n ≤ maxLen) : Own B w (.slice (some ⟨g, 0, none⟩) n n) l := by
  subst hn
  refine ⟨by rw [cells8_length, Nat.mul_one], .inr ⟨g, l.length, _, rfl, hB, h, Nat.le_refl _, hm, by simp [cells8_length], ?_⟩⟩
  rw [Nat.mul_one]
  exact List.take_of_length_le (by simp [cells8_length])
/-- The first k bytes are c, the others 0. -/
def fillK (c : UInt8) (k : Nat) (n : Nat) : List UInt8 := List.replicate k c ++ List.replicate (n - k) 0
theorem fill_next (c : UInt8) (k n : Nat) (h : k < n) : (cells8 (fillK c k n)).toArray.setIfInBounds k (.int .u8 (c8 c)) = (cells8 (fillK c (k + 1) n)).toArray := by
  apply Array.ext'
  simp only [Array.toList_setIfInBounds]
  have e : fillK c (k + 1) n = (fillK c k n).set k c := by
    unfold fillK
    apply List.ext_getElem?
    intro j
    by_cases h1 : j < k
    · rw [List.getElem?_set_ne (by omega), List.getElem?_append_left (by simp; omega), List.getElem?_append_left (by simpa using h1), List.getElem?_replicate, List.getElem?_replicate, if_pos h1, if_pos (by omega)]
    · by_cases h2 : j = k
      · subst h2
        rw [List.getElem?_set_self (by simp; omega), List.getElem?_append_left (by simp), List.getElem?_replicate, if_pos (by omega)]
      · rw [List.getElem?_set_ne (by omega), List.getElem?_append_right (by simp; omega), List.getElem?_append_right (by simp; omega)]
        simp only [List.length_replicate, List.getElem?_replicate]
        by_cases h3 : j < n
        · rw [if_pos (by omega), if_pos (by omega)]
        · rw [if_neg (by omega), if_neg (by omega)]
  rw [e]
  unfold cells8
  rw [List.map_set]
theorem fill_length (c : UInt8) (k n : Nat) (h : k ≤ n) : (fillK c k n).length = n := by simp [fillK]; omega
theorem fill_all (c : UInt8) (n : Nat) : fillK c n n = List.replicate n c := by simp [fillK]
/-- The slice v holds the numbers l. -/
def Ints (w : World) (v : Value) (l : List Int) : Prop :=
  ∃ a cap, v = .slice a l.length cap ∧ l.length ≤ cap ∧ cap ≤ maxLen ∧ ∀ k, k < l.length → ∃ b off, a = some ⟨b, off, none⟩ ∧ w.cell? ⟨b, off + k, none⟩ = some (.int .i64 (l.getD k 0))
theorem OwnI.ints {B : Nat} {w : World} {v : Value} {l : List Int} (H : OwnI B w v l) : Ints w v l := by
  obtain ⟨_, ⟨hv, hn⟩ | ⟨g, cap, cur, hv, hb, hg, hn, hm, hs, ht⟩⟩ := H
  · exact ⟨none, 0, by rw [hv, hn], by omega, by decide, fun k hk => by omega⟩
  · refine ⟨_, cap, hv, hn, hm, fun k hk => ⟨g, 0, rfl, ?_⟩⟩
    rw [cell_of_row w g (0 + k) cur _ _ hg, Nat.zero_add, ← Array.getElem?_toList]
    have h1 : (cur.toList.take (l.length * 1))[k]? = cur.toList[k]? := by rw [List.getElem?_take_of_lt (by omega)]
    rw [← h1, ht]
    simp [cellsI, hk]
theorem Ints.below {w w' : World} {v : Value} {l : List Int} (H : Ints w v l) (hb : Below w.heap.size w w') : Ints w' v l := by
  obtain ⟨a, cap, e, h1, h2, h3⟩ := H
  refine ⟨a, cap, e, h1, h2, fun k hk => ?_⟩
  obtain ⟨b, off, ea, hc⟩ := h3 k hk
  exact ⟨b, off, ea, by rw [hb.cell (p := ⟨b, off + k, none⟩) (block_lt_of_cell hc)]; exact hc⟩
set_option maxHeartbeats 1000000 in
theorem sameInts_yes (v v' : Value) (l : List Int) (w : World) (hv : Ints w v l) (hv' : Ints w v' l) :
    Calls Try.prog 38 #[v, v'] w fun e w' => e = .returned (.bool true) ∧ Below w.heap.size w w' := by
  have V : Aside (Ints w v l ∧ Ints w v' l) := ⟨hv, hv'⟩
  obtain ⟨a, cap, rfl, hlc, hcm, hc⟩ := hv
  obtain ⟨a', cap', rfl, hlc', hcm', hc'⟩ := hv'
  unfold maxLen at hcm hcm'
  obtain ⟨n, hn⟩ : ∃ n, n = l.length := ⟨_, rfl⟩
  rw [← hn] at hlc hlc' ⊢
  have HC : Aside ((∀ k, k < n → ∃ b off, a = some ⟨b, off, none⟩ ∧ w.cell? ⟨b, off + k, none⟩ = some (.int .i64 (l.getD k 0))) ∧ (∀ k, k < n → ∃ b off, a' = some ⟨b, off, none⟩ ∧ w.cell? ⟨b, off + k, none⟩ = some (.int .i64 (l.getD k 0)))) := by rw [hn]; exact ⟨hc, hc'⟩
  clear hn hc hc'
  go_enter Try.func38, Try.ntmps38
  go_wp2_with fail
  go_loopg [5] n (fun g si wr => ∃ (k : Nat), k ≤ n ∧ g = n - k ∧ si = .int .i64 k ∧ Below w.heap.size w wr)
  case atStart => exact ⟨0, Nat.zero_le _, rfl, rfl, Below.refl _ _⟩
  case round =>
    obtain ⟨k, hk, hg, rfl, hb⟩ := hrel
    have R : Aside (gk = n - k ∧ Below w.heap.size w wr) := ⟨hg, hb⟩
    clear hg hb
    by_cases hlt : k < n
    · obtain ⟨b, off, rfl, p0⟩ := HC.out.1 k hlt
      obtain ⟨b', off', rfl, q0⟩ := HC.out.2 k hlt
      have r0 : wr.cell? ⟨b, off + k, none⟩ = some (.int .i64 (l.getD k 0)) := (R.out.2.cell (block_lt_of_cell p0)).trans p0
      have r1 : wr.cell? ⟨b', off' + k, none⟩ = some (.int .i64 (l.getD k 0)) := (R.out.2.cell (block_lt_of_cell q0)).trans q0
      obtain ⟨x, hx⟩ : ∃ x, x = l.getD k 0 := ⟨_, rfl⟩
      rw [← hx] at r0 r1
      clear hx p0 q0
      have hlt' : (k : Int) < (n : Int) := by omega
      go_wp2_with fail
      go_quiet (fail)
      go_wp2_with fail
      go_roundg (n - (k + 1))
      case measure => have := R.out.1; omega
      case rel => exact ⟨k + 1, by omega, rfl, by go_num, R.out.2.trans ⟨rfl, rfl, rfl, Nat.le_refl _, fun _ _ => rfl⟩⟩
    · go_wp2_with fail
      go_ret
      exact ⟨rfl, R.out.2⟩
end Go.Proofs.Ytojemioophlplaa
