/-
  The statements' own: block.
-/
import Derived.Test.YtojemioophlplaaHlA
import Derived.Test.YtojemioophlplaaMsk
namespace Go.Proofs.Ytojemioophlplaa
open Go.RowKit Go.Maps
/-- A step. -/
structure OpD where
  two : Bool
  kind : Int
  blk : Int
  n : Int
  len : Int
  fill : UInt8
  bv : Value
  bs : List UInt8
  fv : Value
  fs : List (Int × Int)
def OpD.cells (o : OpD) : List Value := [.bool o.two, .int .i64 o.kind, .int .i64 o.blk, .int .i64 o.n, .int .i64 o.len, .int .u8 (c8 o.fill), o.bv, o.fv]
/-- What block makes. -/
def blkB (o : OpD) : List UInt8 :=
  let m := (o.len % 1024).toNat
  if 100 < m then (((List.replicate m o.fill).set 0 (o.fill + 1)).set 100 (o.fill + 2)).set (m - 1) (o.fill + 3) else List.replicate m o.fill
theorem blkB_length (o : OpD) : (blkB o).length ≤ 1023 := by
  have : (o.len % 1024).toNat ≤ 1023 := by omega
  unfold blkB
  simp only
  split
  · simp only [List.length_set, List.length_replicate]; exact this
  · rw [List.length_replicate]; exact this
theorem set_cells (l : List UInt8) (k : Nat) (c : UInt8) : (cells8 l).toArray.setIfInBounds k (.int .u8 (c8 c)) = (cells8 (l.set k c)).toArray := by
  apply Array.ext'
  simp only [Array.toList_setIfInBounds]
  unfold cells8
  rw [List.map_set]
set_option maxHeartbeats 2000000 in
theorem block_any (o : OpD) (w : World) : Calls Try.prog 9 #[.agg o.cells.toArray] w fun e w' => ∃ v, e = .returned v ∧ Own w.heap.size w' v (blkB o) ∧ Below w.heap.size w w' := by
  obtain ⟨two, kind, blk, n, len, fill, bv, bs, fv, fs⟩ := o
  obtain ⟨m, hm⟩ : ∃ m : Nat, m = (len % 1024).toNat := ⟨_, rfl⟩
  have hm2 : m ≤ 1023 := by omega
  have hand : bits BinOp.and IntKind.i64 len 1023 = (m : Int) := by rw [and_1023, hm]
  have HB : Hid (blkB ⟨two, kind, blk, n, len, fill, bv, bs, fv, fs⟩ = if 100 < m then (((List.replicate m fill).set 0 (fill + 1)).set 100 (fill + 2)).set (m - 1) (fill + 3) else List.replicate m fill) := Lib.hid (by rw [hm]; rfl)
  obtain ⟨C, hC⟩ : ∃ C, C = (OpD.cells ⟨two, kind, blk, n, len, fill, bv, bs, fv, fs⟩).toArray := ⟨_, rfl⟩
  rw [← hC]
  obtain ⟨X, hX⟩ : ∃ X, X = w.alloc (.cells C 33) := ⟨_, rfl⟩
  obtain ⟨Y, hY⟩ : ∃ Y, Y = X.alloc (.cells (madeCells #[.int .u8 0] m) 5) := ⟨_, rfl⟩
  have sX : X.heap.size = w.heap.size + 1 := by rw [hX]; simp
  have BX : Hid (Below w.heap.size w X) := Lib.hid (by rw [hX]; exact (Below.refl _ _).alloc (Nat.le_refl _) _)
  have BY : Hid (Below w.heap.size w Y) := Lib.hid (by rw [hY]; exact BX.out.alloc (by omega) _)
  have gX : Hid (X.heap[w.heap.size]? = some (.cells C 33 (0, 0))) := Lib.hid (by rw [hX, heap_alloc_new])
  have gY : Hid (Y.heap[w.heap.size]? = some (.cells C 33 (0, 0))) := Lib.hid (by rw [hY, Below.heap_alloc _ _ _ (by omega)]; exact gX.out)
  have pY : Hid (Y.heap[w.heap.size + 1]? = some (.cells (cells8 (fillK fill 0 m)).toArray 5 (0, 0))) := Lib.hid (by rw [hY, ← sX, heap_alloc_new, made_zeros]; simp [fillK])
  have cl : X.cell? ⟨w.heap.size, 4, none⟩ = some (.int .i64 len) := by rw [cell_of_row X _ _ _ _ _ gX.out, hC]; rfl
  have hmk : (Instr.makeSlice 30 (.int .i64 (m : Int)) (.int .i64 (m : Int))).run Try.prog X = .ok (.slice (some ⟨w.heap.size + 1, 0, none⟩) m m) Y := by rw [hY, ← sX]; exact make_bytes X m m rfl rfl (Nat.le_refl _) (by omega)
  have CF : Hid (∀ W : World, W.heap[w.heap.size]? = some (.cells C 33 (0, 0)) → W.cell? ⟨w.heap.size, 5, none⟩ = some (.int .u8 (c8 fill))) := Lib.hid (fun W h => by rw [cell_of_row W _ _ _ _ _ h, hC]; rfl)
  obtain ⟨f8, h8⟩ : ∃ f8, f8 = c8 fill := ⟨_, rfl⟩
  have F8 := Lib.hid h8
  rw [← h8] at CF
  have hX' := hX.symm
  have hw1 : (f8 + 1) % 256 = c8 (fill + 1) := by rw [h8]; unfold c8; rw [UInt8.toNat_add]; have := fill.toNat_lt; show _ = (((fill.toNat + 1) % 256 : Nat) : Int); omega
  have hw2 : (f8 + 2) % 256 = c8 (fill + 2) := by rw [h8]; unfold c8; rw [UInt8.toNat_add]; have := fill.toNat_lt; show _ = (((fill.toNat + 2) % 256 : Nat) : Int); omega
  have hw3 : (f8 + 3) % 256 = c8 (fill + 3) := by rw [h8]; unfold c8; rw [UInt8.toNat_add]; have := fill.toNat_lt; show _ = (((fill.toNat + 3) % 256 : Nat) : Int); omega
  have W3 := Lib.hid (And.intro hw1 (And.intro hw2 hw3))
  clear hX hY hC h8 hw1 hw2 hw3 hm sX
  go_enter Try.func9, Try.ntmps9
  go_wp2_with fail
  clear hmk hX'
  go_loopg [5] m (fun g si wr => ∃ (k : Nat), k ≤ m ∧ g = m - k ∧ si = .int .i64 k ∧ wr.heap[w.heap.size + 1]? = some (.cells (cells8 (fillK fill k m)).toArray 5 (0, 0)) ∧ wr.heap[w.heap.size]? = some (.cells C 33 (0, 0)) ∧ Below w.heap.size w wr)
  case atStart => exact ⟨0, Nat.zero_le _, rfl, rfl, pY.out, gY.out, BY.out⟩
  case round =>
    obtain ⟨k, hk, hg, rfl, hp, hq, hb⟩ := hrel
    have R : Aside (gk = m - k ∧ wr.heap[w.heap.size + 1]? = some (.cells (cells8 (fillK fill k m)).toArray 5 (0, 0)) ∧ wr.heap[w.heap.size]? = some (.cells C 33 (0, 0)) ∧ Below w.heap.size w wr) := ⟨hg, hp, hq, hb⟩
    have c5 := CF.out wr hq
    by_cases hlt : k < m
    · have hlt' : (k : Int) < (m : Int) := by omega
      obtain ⟨u, c1⟩ : ∃ u, wr.cell? ⟨w.heap.size + 1, k, none⟩ = some u := by
        rw [cell_of_row wr _ _ _ _ _ hp]
        exact ⟨_, Array.getElem?_eq_getElem (by simp only [List.size_toArray, cells8_length, fill_length fill k m hk]; exact hlt)⟩
      have c2 : wr.frozen? ⟨w.heap.size + 1, k, none⟩ = false := frozen_of_row wr _ _ _ _ hp
      clear hg hp hq hb
      go_wp2_with fail
      go_roundg (m - (k + 1))
      case measure => have := R.out.1; omega
      case rel => exact ⟨k + 1, by omega, rfl, by go_num, by rw [heap_setCell_same _ _ _ _ _ _ R.out.2.1, F8.out, fill_next fill k m hlt], by rw [heap_setCell_other _ _ _ _ (by show w.heap.size ≠ w.heap.size + 1; omega)]; exact R.out.2.2.1, R.out.2.2.2.setCell (p := ⟨w.heap.size + 1, k, none⟩) (by show w.heap.size ≤ w.heap.size + 1; omega) _⟩
    · have ek : k = m := by omega
      subst ek
      by_cases h100 : 100 < k
      · have g100 : decide ((k : Int) > 100) = true := decide_eq_true (by omega)
        have cc : ∀ j, j < k → ∃ u, wr.cell? ⟨w.heap.size + 1, j, none⟩ = some u := fun j hj => by
          rw [cell_of_row wr _ _ _ _ _ hp]
          exact ⟨_, Array.getElem?_eq_getElem (by simp only [List.size_toArray, cells8_length, fill_length fill k k (Nat.le_refl _)]; exact hj)⟩
        obtain ⟨u0, c0⟩ := cc 0 (by omega)
        obtain ⟨u1, c1⟩ := cc 100 (by omega)
        obtain ⟨u2, c2⟩ := cc (k - 1) (by omega)
        have d0 : wr.frozen? ⟨w.heap.size + 1, 0, none⟩ = false := frozen_of_row wr _ _ _ _ hp
        have d1 : wr.frozen? ⟨w.heap.size + 1, 100, none⟩ = false := frozen_of_row wr _ _ _ _ hp
        have d2 : wr.frozen? ⟨w.heap.size + 1, k - 1, none⟩ = false := frozen_of_row wr _ _ _ _ hp
        have hk1 : (k : Int) - 1 < (k : Int) := by omega
        have hk2 : ((k : Int) - 1).toNat = k - 1 := by omega
        have hk0 : (0 : Int) ≤ (k : Int) - 1 := by omega
        clear hg hp hq hb cc
        by_cases h101 : k = 101
        · subst h101
          go_wp2_with fail
          go_ret
          rw [W3.out.1, W3.out.2.1, W3.out.2.2]
          refine ⟨_, rfl, ?_, ((R.out.2.2.2.setCell (p := ⟨w.heap.size + 1, 0, none⟩) (by show w.heap.size ≤ w.heap.size + 1; omega) _).setCell (p := ⟨w.heap.size + 1, 100, none⟩) (by show w.heap.size ≤ w.heap.size + 1; omega) _).setCell (p := ⟨w.heap.size + 1, 100, none⟩) (by show w.heap.size ≤ w.heap.size + 1; omega) _⟩
          rw [HB.out, if_pos h100]
          have q := heap_setCell_same _ _ 100 _ _ (.int .u8 ((f8 + 3) % 256)) (heap_setCell_same _ _ 100 _ _ (.int .u8 ((f8 + 2) % 256)) (heap_setCell_same _ _ 0 _ _ (.int .u8 ((f8 + 1) % 256)) R.out.2.1))
          rw [W3.out.1, W3.out.2.1, W3.out.2.2, set_cells, set_cells, set_cells, fill_all] at q
          exact own_of q (by omega) (by simp only [List.length_set, List.length_replicate]) (by unfold maxLen; omega)
        · have hj0 : ¬ k - 1 = 0 := by omega
          have hj1 : ¬ k - 1 = 100 := by omega
          have hj2 : ¬ 100 = k - 1 := by omega
          have hj3 : ¬ 0 = k - 1 := by omega
          go_wp2_with fail
          go_ret
          rw [W3.out.1, W3.out.2.1, W3.out.2.2]
          refine ⟨_, rfl, ?_, ((R.out.2.2.2.setCell (p := ⟨w.heap.size + 1, 0, none⟩) (by show w.heap.size ≤ w.heap.size + 1; omega) _).setCell (p := ⟨w.heap.size + 1, 100, none⟩) (by show w.heap.size ≤ w.heap.size + 1; omega) _).setCell (p := ⟨w.heap.size + 1, k - 1, none⟩) (by show w.heap.size ≤ w.heap.size + 1; omega) _⟩
          rw [HB.out, if_pos h100]
          have q := heap_setCell_same _ _ (k - 1) _ _ (.int .u8 ((f8 + 3) % 256)) (heap_setCell_same _ _ 100 _ _ (.int .u8 ((f8 + 2) % 256)) (heap_setCell_same _ _ 0 _ _ (.int .u8 ((f8 + 1) % 256)) R.out.2.1))
          rw [W3.out.1, W3.out.2.1, W3.out.2.2, set_cells, set_cells, set_cells, fill_all] at q
          exact own_of q (by omega) (by simp only [List.length_set, List.length_replicate]) (by unfold maxLen; omega)
      · have g100 : decide ((k : Int) > 100) = false := decide_eq_false (by omega)
        clear hg hp hq hb
        go_wp2_with fail
        go_ret
        refine ⟨_, rfl, ?_, R.out.2.2.2⟩
        rw [HB.out, if_neg h100, ← fill_all]
        exact own_of R.out.2.1 (by omega) (by rw [fill_length _ _ _ (Nat.le_refl _)]) (by unfold maxLen; omega)
end Go.Proofs.Ytojemioophlplaa
