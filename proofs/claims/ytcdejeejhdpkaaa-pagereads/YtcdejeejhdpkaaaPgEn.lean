/-
  What the document's Encode of each kind shares.
-/
import Derived.Test.YtcdejeejhdpkaaaPgRh
import Derived.Test.YtcdejeejhdpkaaaPgDn
namespace Go.Proofs.Ytcdejeejhdpkaaa
open Go.RowKit Go.Maps
theorem hd8_cells (kd cnt : Nat) (hk : kd < 256) (hc : cnt < 65536) : (#[.int .u8 181, .int .u8 (kd : Int), .int .u8 ((cnt : Int) % 256), .int .u8 ((cnt : Int) / 256), .int .u8 0, .int .u8 0, .int .u8 0, .int .u8 0] : Array Value) = (cells8 (hdN kd cnt ++ [0, 0, 0, 0])).toArray := by
  have e : cells8 (hdN kd cnt ++ [0, 0, 0, 0]) = [.int .u8 181, .int .u8 (c8 (UInt8.ofNat kd)), .int .u8 (c8 (UInt8.ofNat (cnt % 256))), .int .u8 (c8 (UInt8.ofNat (cnt / 256 % 256))), .int .u8 0, .int .u8 0, .int .u8 0, .int .u8 0] := rfl
  rw [e, c8_of _ hk, c8_of _ (by omega), c8_of _ (by omega)]
  have h1 : ((cnt % 256 : Nat) : Int) = (cnt : Int) % 256 := by omega
  have h2 : ((cnt / 256 % 256 : Nat) : Int) = (cnt : Int) / 256 := by omega
  rw [h1, h2]
/-- The block g is none of the row's. -/
def Nb (g : Nat) (v : Value) : Prop := ∀ k, some k = v.ownBlock → k ≠ g
theorem Gr.nb {v v' : Value} {w w' : World} {g : Nat} (h : Gr v v' w w') (hn : Nb g v) (hg : g < w.heap.size) : Nb g v' := fun k hk => by
  rcases h.a k hk with q | q
  · exact hn k q
  · omega
theorem Gr.block {v v' : Value} {w w' : World} {g : Nat} {o : Obj} (h : Gr v v' w w') (hn : Nb g v) (hg : w.heap[g]? = some o) : w'.heap[g]? = some o := by
  rw [h.k.block g (lt_of_heap hg) (fun e => hn g e rfl)]; exact hg
theorem Gr.alloc {v v' : Value} {w w' : World} (h : Gr v v' w w') (o : Obj) : Gr v v' w (w'.alloc o) :=
  ⟨h.k.trans (Below.kept ((Below.refl _ _).alloc (Nat.le_refl _) _) _) (fun _ _ h => h), h.a⟩
theorem two_cells (a b : Nat) (ha : a < 256) (hb : b < 256) : (#[.int .u8 (a : Int), .int .u8 (b : Int)] : Array Value) = (cells8 [UInt8.ofNat a, UInt8.ofNat b]).toArray := by
  have e : cells8 [UInt8.ofNat a, UInt8.ofNat b] = [.int .u8 (c8 (UInt8.ofNat a)), .int .u8 (c8 (UInt8.ofNat b))] := rfl
  rw [e, c8_of _ ha, c8_of _ hb]
theorem own_set8 {B : Nat} {w : World} {g n cap : Nat} {c : List UInt8} (h : Own B w (.slice (some ⟨g, 0, none⟩) n cap) c) (q : Nat) (z : UInt8) :
    Own B (w.setCell ⟨g, q, none⟩ (.int .u8 (c8 z))) (.slice (some ⟨g, 0, none⟩) n cap) (c.set q z) := by
  have hn : n = c.length := by
    obtain ⟨_, ⟨hv, _⟩ | ⟨g', cap', cur, hv, _⟩⟩ := h
    · simp at hv
    · simp only [Value.slice.injEq] at hv; exact hv.2.1
  subst hn
  have h1 : w.ownsRow B 5 1 (.slice (some ⟨g, 0, none⟩) c.length cap) c.length (cells8 c) := h
  have h2 := (h1.stored q (.int .u8 (c8 z))).1
  have e : (cells8 c).set q (.int .u8 (c8 z)) = cells8 (c.set q z) := by simp [cells8, List.map_set]
  rw [e] at h2
  show World.ownsRow _ _ _ _ _ _ _
  rw [List.length_set]; exact h2
theorem own_cell8 {B : Nat} {w : World} {g n cap : Nat} {c : List UInt8} (h : Own B w (.slice (some ⟨g, 0, none⟩) n cap) c) (q : Nat) (hq : q < c.length) : w.cell? ⟨g, q, none⟩ = some (.int .u8 (c8 (c.getD q 0))) ∧ w.frozen? ⟨g, q, none⟩ = false := by
  have hn : n = c.length := by
    obtain ⟨_, ⟨hv, _⟩ | ⟨g', cap', cur, hv, _⟩⟩ := h
    · simp at hv
    · simp only [Value.slice.injEq] at hv; exact hv.2.1
  subst hn
  have h1 : w.ownsRow B 5 1 (.slice (some ⟨g, 0, none⟩) c.length cap) c.length (cells8 c) := h
  exact ⟨by rw [h1.cellAt q (by omega), cells8_at hq], h1.frozenAt q⟩
theorem le4_at (s : Nat) (hs : s < 4294967296) : (s : Int) % 256 = c8 ((leB 4 s).getD 0 0) ∧ (s : Int) / 256 % 256 = c8 ((leB 4 s).getD 1 0) ∧ (s : Int) / 65536 % 256 = c8 ((leB 4 s).getD 2 0) ∧ (s : Int) / 16777216 = c8 ((leB 4 s).getD 3 0) := by
  refine ⟨?_, ?_, ?_, ?_⟩
  · show _ = c8 (UInt8.ofNat (s % 256)); rw [c8_of _ (by omega)]; omega
  · show _ = c8 (UInt8.ofNat (s / 256 % 256)); rw [c8_of _ (by omega)]; omega
  · show _ = c8 (UInt8.ofNat (s / 256 / 256 % 256)); rw [c8_of _ (by omega)]; omega
  · show _ = c8 (UInt8.ofNat (s / 256 / 256 / 256 % 256)); rw [c8_of _ (by omega)]; omega
theorem own_slice9 {B : Nat} {w : World} {v : Value} {l : List UInt8} (h : Own B w v l) (hl : l.length = 512) : ∃ g cap, v = .slice (some ⟨g, 0, none⟩) 512 cap ∧ 512 ≤ cap ∧ cap ≤ 9223372036854775807 := by
  obtain ⟨_, ⟨_, hn⟩ | ⟨g', cap', cur, hv, hB, hg', hnc, hm, _⟩⟩ := h
  · rw [hl] at hn; omega
  · rw [hl] at hv hnc; exact ⟨g', cap', hv, hnc, by unfold maxLen at hm; omega⟩
theorem zf_fill (l : List UInt8) (j : Nat) (h : l.length + j = 512) : l ++ List.replicate j 0 = zf l := by
  unfold zf
  rw [show 512 - l.length = j by omega]
theorem entry_cells {W : World} {g : Nat} {a b : ByteArray} (h : W.heap[g]? = some (.cells #[.string a, .string b] 29 (0, 0))) : W.cell? ⟨g, 0, none⟩ = some (.string a) ∧ W.cell? ⟨g, 1, none⟩ = some (.string b) := by
  exact ⟨by rw [cell_of_row W g 0 _ _ _ h]; rfl, by rw [cell_of_row W g 1 _ _ _ h]; rfl⟩
end Go.Proofs.Ytcdejeejhdpkaaa
