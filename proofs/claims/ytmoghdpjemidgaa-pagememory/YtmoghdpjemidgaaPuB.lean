/-
  The statements' own: own, same.
-/
import Derived.Test.YtmoghdpjemidgaaPuA
import Derived.RegionTactic
import Derived.BigRegion
import Derived.Laws.OwnMore
namespace Go.Proofs.Ytmoghdpjemidgaa
open Go.RowKit Go.Maps
theorem take_one8 (l : List UInt8) (k : Nat) (h : k < l.length) : l.take (k + 1) = l.take k ++ [l.getD k 0] := by
  rw [List.take_add_one, List.getElem?_eq_getElem h, Option.toList_some, List.getD_eq_getElem?_getD, List.getElem?_eq_getElem h, Option.getD_some]
set_option maxRecDepth 100000 in
set_option maxHeartbeats 1000000 in
theorem ownW_any (v : Value) (l : List UInt8) (w : World) (hv : Bytes w v l) (hl : l.length ≤ 140737488355300) :
    Calls Try.prog 10 #[v] w fun e w' => ∃ v', e = .returned v' ∧ Own w.heap.size w' v' l ∧ Below w.heap.size w w' := by
  obtain ⟨a, cap, rfl, hlc, hcm, _, hc⟩ := hv
  unfold maxLen at hcm
  obtain ⟨n, hn⟩ : ∃ n, n = l.length := ⟨_, rfl⟩
  have HC : Hid (∀ k, k < n → ∃ b off, a = some ⟨b, off, none⟩ ∧ w.cell? ⟨b, off + k, none⟩ = some (.int .u8 (c8 (l.getD k 0)))) := Lib.hid (by rw [hn]; exact hc)
  rw [← hn] at hlc hl ⊢
  have NN := Lib.hid hn
  clear hn hc
  go_enter Try.func10, Try.ntmps10
  go_wp2_with fail
  go_loopg [3, 4] n (fun g sv si wr => ∃ (k : Nat), k ≤ n ∧ g = n - k ∧ si = .int .i64 k ∧ Own w.heap.size wr sv (l.take k) ∧ Below w.heap.size w wr)
  case atStart => exact ⟨0, Nat.zero_le _, rfl, rfl, World.ownsRow_nil _ _ _ _, Below.refl _ _⟩
  case round =>
    obtain ⟨k, hk, hg, rfl, ho, hb⟩ := hrel
    have O := Lib.hid ho
    have Bl := Lib.hid hb
    have G := Lib.hid hg
    clear ho hg hb
    by_cases hlt : k < n
    · obtain ⟨b, off, rfl, p0⟩ := HC.out k hlt
      have r0 := (Bl.out.cell (block_lt_of_cell p0)).trans p0
      obtain ⟨x, hx⟩ : ∃ x, x = l.getD k 0 := ⟨_, rfl⟩
      rw [← hx] at r0
      have T : Hid (l.take (k + 1) = l.take k ++ [x]) := Lib.hid (by rw [hx]; exact take_one8 l k (by rw [← NN.out]; exact hlt))
      have L : Hid ((l.take k).length < 140737488355328) := Lib.hid (by rw [List.length_take]; omega)
      obtain ⟨n8, h8⟩ : ∃ n8, n8 = c8 x := ⟨_, rfl⟩
      rw [← h8] at r0
      have E8 := Lib.hid h8
      clear hx p0 h8
      have hlt' : (k : Int) < (n : Int) := by omega
      go_wp2_with (at_builtin; refine app_byte rfl _ _ rfl rfl O.out Bl.out.size _ x E8.out rfl L.out ?_)
      intro v' W' o1 o2 _
      have A : Hid (Own w.heap.size W' v' (l.take (k + 1)) ∧ Below w.heap.size w W') := Lib.hid ⟨by rw [T.out]; exact o1, Bl.out.trans (grown_below o2 O.out Bl.out.size)⟩
      clear o1 o2
      go_wp2_with fail
      go_roundg (n - (k + 1))
      case measure => have := G.out; omega
      case rel => exact ⟨k + 1, by omega, rfl, by go_num, A.out⟩
    · have hge : ¬ (k : Int) < (n : Int) := by omega
      have EK : Hid (l.take k = l) := Lib.hid (List.take_of_length_le (by rw [← NN.out]; omega))
      go_wp2_with fail
      go_ret
      have := O.out
      rw [EK.out] at this
      exact ⟨_, rfl, this, Bl.out⟩
set_option maxHeartbeats 400000 in
theorem sameW_any (v v' : Value) (l m : List UInt8) (w : World) (hv : Bytes w v l) (hv' : Bytes w v' m) :
    Calls Try.prog 13 #[v, v'] w fun e w' => e = .returned (.bool (decide (l = m))) ∧ w' = w := by
  have h1 := convT hv
  have h2 := convT hv'
  go_enter Try.func13, Try.ntmps13
  go_wp2
  go_ret
  exact ⟨congrArg (fun b => Ending.returned (.bool b)) (txt_beq l m), rfl⟩
theorem own_put8 {B : Nat} {w : World} {g n cap : Nat} {c : List UInt8} (h : Own B w (.slice (some ⟨g, 0, none⟩) n cap) c) (q : Nat) (z : UInt8) :
    Own B (w.setCell ⟨g, q, none⟩ (.int .u8 (c8 z))).drew (.slice (some ⟨g, 0, none⟩) n cap) (c.set q z) := by
  have hn : n = c.length := by
    obtain ⟨_, ⟨hv, _⟩ | ⟨g', cap', cur, hv, _⟩⟩ := h
    · simp at hv
    · simp only [Value.slice.injEq] at hv; exact hv.2.1
  subst hn
  have h1 : w.ownsRow B 5 1 (.slice (some ⟨g, 0, none⟩) c.length cap) c.length (cells8 c) := h
  have h2 := (h1.stored q (.int .u8 (c8 z))).1.drew
  have e : (cells8 c).set q (.int .u8 (c8 z)) = cells8 (c.set q z) := by simp [cells8, List.map_set]
  rw [e] at h2
  show World.ownsRow _ _ _ _ _ _ _
  rw [List.length_set]; exact h2
theorem tu_c8 (y : UInt8) (r : Nat) (hr : r < 8) : bits .xor .u8 (c8 y) (2 ^ r % 256) = c8 (tuB y r) := Sm.u8_turn y.toBitVec r hr
end Go.Proofs.Ytmoghdpjemidgaa
