/-
  Pending.
-/
import Derived.Test.YtojemioophlplaaSetB
namespace Go.Proofs.Ytojemioophlplaa
open Go.RowKit Go.Maps
def cellsI (l : List Int) : List Value := l.map (.int .i64 ·)
theorem cellsI_length (l : List Int) : (cellsI l).length = l.length := by simp [cellsI]
/-- The slice v holds the numbers l. -/
def OwnI (B : Nat) (w : World) (v : Value) (l : List Int) : Prop := w.ownsRow B 3 1 v l.length (cellsI l)
def blocksOf (l : List Wt) : List Int := l.map fun x => (x.1 : Int)
theorem info_int : (Try.prog.info? 3).map (fun i => (i.zero, i.size, i.bytes)) = some (some (.int .i64 0), 1, 8) := by kernel_rfl
theorem make_ints (w : World) (n : Nat) (h : n < 1099511627776) :
    (Instr.makeSlice 77 (.int .i64 n) (.int .i64 n)).run Try.prog w = .ok (.slice (some ⟨w.heap.size, 0, none⟩) n n) (w.alloc (.cells (cellsI (List.replicate n 0)).toArray 3)) := by
  obtain ⟨i0, hi, hz0, hz1, hz2⟩ := info_parts info_int
  have h := run_make (P := Try.prog) w 77 3 i0 (.int .i64 0) Try.underlying77 hi hz0 .i64 .i64 (n : Int) (n : Int) (by omega) (by omega) (by rw [hz2]; omega) (by omega)
  have e : madeCells (Value.int .i64 0).cells ((n : Int).toNat * i0.size) = (cellsI (List.replicate n 0)).toArray := by
    rw [hz1, Int.toNat_natCast, Nat.mul_one]
    apply Array.ext
    · simp [size_madeCells, cellsI]
    · intro k h1 h2
      simp [madeCells, cellsI, Value.cells, Nat.mod_one]
  rw [h, e, Int.toNat_natCast]
def pend (l : List Wt) (k : Nat) : List Int := blocksOf (l.take k) ++ List.replicate (l.length - k) 0
theorem pend_next (l : List Wt) (k : Nat) (x : Wt) (hx : l[k]? = some x) : (cellsI (pend l k)).toArray.setIfInBounds k (.int .i64 (x.1 : Int)) = (cellsI (pend l (k + 1))).toArray := by
  have hk : k < l.length := (List.getElem?_eq_some_iff.1 hx).1
  apply Array.ext'
  simp only [Array.toList_setIfInBounds]
  apply List.ext_getElem?
  intro j
  unfold cellsI pend blocksOf
  rw [List.take_add_one, hx]
  by_cases h1 : j < k
  · rw [List.getElem?_set_ne (by omega), List.getElem?_map, List.getElem?_map, List.getElem?_append_left (by simp; omega), List.getElem?_append_left (by simp; omega), List.map_append, List.getElem?_append_left (by simp; omega)]
  · by_cases h2 : j = k
    · subst h2
      rw [List.getElem?_set_self (by simp; omega), List.getElem?_map, List.getElem?_append_left (by simp; omega), List.map_append, List.getElem?_append_right (by simp; omega)]
      simp [Nat.min_eq_left (Nat.le_of_lt hk)]
    · rw [List.getElem?_set_ne (by omega), List.getElem?_map, List.getElem?_map, List.getElem?_append_right (by simp; omega), List.getElem?_append_right (by simp; omega)]
      simp only [List.length_map, List.length_take, List.map_append, List.length_append, List.getElem?_replicate, Option.toList_some, List.length_cons, List.length_nil, List.map_cons, List.map_nil]
      by_cases h3 : j < l.length
      · rw [if_pos (by omega), if_pos (by omega)]
      · rw [if_neg (by omega), if_neg (by omega)]
theorem pend_all (l : List Wt) : pend l l.length = blocksOf l := by simp [pend]
theorem pend_length (l : List Wt) (k : Nat) (h : k ≤ l.length) : (pend l k).length = l.length := by simp [pend, blocksOf]; omega
set_option maxRecDepth 100000 in
set_option maxHeartbeats 2000000 in
theorem pending_tight {B : Nat} {w : World} {d mb mp : Nat} {cv : Value} {s : DS} (h : Dv B w d mb mp cv s) (hws : s.ws < 1099511627776) :
    Calls Try.prog 39 #[.pointer (some ⟨d, 0, none⟩)] w fun e w' => ∃ v, e = .returned v ∧ OwnI w.heap.size w' v (blocksOf s.cache) ∧ Below w.heap.size w w' ∧ v = .slice (some ⟨w.heap.size, 0, none⟩) s.cache.length s.cache.length := by
  have H := Lib.hid h
  obtain ⟨av, cap, hcv, hlc, hcm⟩ : ∃ av cap, cv = .slice av s.cache.length cap ∧ s.cache.length ≤ cap ∧ cap ≤ maxLen := by
    obtain ⟨_, ⟨hv, hn⟩ | ⟨g, cap, cur, hv, hb, hg, hn, hm, hs, ht⟩⟩ := h.cache
    · exact ⟨none, 0, by rw [hv, hn], by omega, by decide⟩
    · exact ⟨_, cap, hv, hn, hm⟩
  have HCV := Lib.hid hcv
  have p1 : w.cell? ⟨d, 1, none⟩ = some cv := h.cell 1
  obtain ⟨N, hN⟩ : ∃ N, N = s.cache.length := ⟨_, rfl⟩
  rw [hcv, ← hN] at p1
  rw [← hN] at hlc
  have hN2 : N < 1099511627776 := by have := h.fit.ws; omega
  have NN := Lib.hid hN
  unfold maxLen at hcm
  obtain ⟨X, hX⟩ : ∃ X, X = w.alloc (.cells (cellsI (List.replicate N 0)).toArray 3) := ⟨_, rfl⟩
  have hB : Hid (Below w.heap.size w X) := Lib.hid (by rw [hX]; exact (Below.refl _ _).alloc (Nat.le_refl _) _)
  have gX : Hid (X.heap[w.heap.size]? = some (.cells (cellsI (pend s.cache 0)).toArray 3 (0, 0))) := Lib.hid (by rw [hX, heap_alloc_new, hN]; simp [pend, blocksOf])
  have q1 : X.cell? ⟨d, 1, none⟩ = some (.slice av N cap) := (hB.out.cell (block_lt_of_cell p1)).trans p1
  have hm : (Instr.makeSlice 77 (.int .i64 N) (.int .i64 N)).run Try.prog w = .ok (.slice (some ⟨w.heap.size, 0, none⟩) N N) X := by rw [hX]; exact make_ints w N hN2
  clear h hcv hN hX hws
  go_enter Try.func39, Try.ntmps39
  go_wp2_with fail
  clear hm
  go_loopg [17] N (fun g si wr => ∃ (k : Nat), k ≤ N ∧ g = N - k ∧ si = .int .i64 k ∧ wr.heap[w.heap.size]? = some (.cells (cellsI (pend s.cache k)).toArray 3 (0, 0)) ∧ Below w.heap.size w wr)
  case atStart => exact ⟨0, Nat.zero_le _, rfl, rfl, gX.out, hB.out⟩
  case round =>
    obtain ⟨k, hk, hg, rfl, hp, hb⟩ := hrel
    by_cases hlt : k < N
    · obtain ⟨x, hx⟩ : ∃ x, s.cache[k]? = some x := ⟨_, List.getElem?_eq_getElem (by rw [← NN.out]; exact hlt)⟩
      obtain ⟨g, cap', hcv', _, _, hglt, _, _, hR⟩ := cache_at (H.out.below hb) k x hx
      rw [HCV.out] at hcv'
      simp only [Value.slice.injEq, true_and] at hcv'
      obtain ⟨rfl, rfl⟩ := hcv'
      have hr : Hid (x.2.length = 512) := Lib.hid (H.out.fit.ok x (List.mem_of_getElem? hx)).2
      have R := Lib.hid hR
      have S : Aside (gk = N - k ∧ wr.heap[w.heap.size]? = some (.cells (cellsI (pend s.cache k)).toArray 3 (0, 0)) ∧ Below w.heap.size w wr) := ⟨hg, hp, hb⟩
      have hlt' : (k : Int) < (N : Int) := by omega
      obtain ⟨Z, hZ⟩ : ∃ Z, Z = #[Value.int .i64 0] ++ Array.replicate 512 (Value.int .u8 0) := ⟨_, rfl⟩
      have zw := zero_write
      rw [← hZ] at zw
      obtain ⟨C, hC⟩ : ∃ C, C = (Value.int .i64 (x.1 : Int) :: cells8 x.2).toArray := ⟨_, rfl⟩
      have HC : Hid (C.size = 513 ∧ Z.size = C.size ∧ C.all (·.oneCell') = true) := Lib.hid (by rw [hC, hZ, zeros_size]; exact ⟨(wt_cells x hr.out).1, (wt_cells x hr.out).1.symm, (wt_cells x hr.out).2⟩)
      have CC := Lib.hid hC
      obtain ⟨W, hW⟩ : ∃ W, W = wr.alloc (.cells C 68) := ⟨_, rfl⟩
      have BW : Hid (Below wr.heap.size wr W) := Lib.hid (by rw [hW]; exact (Below.refl _ _).alloc (Nat.le_refl _) _)
      have c0 : W.cell? ⟨wr.heap.size, 0, none⟩ = some (.int .i64 (x.1 : Int)) := by rw [hW, World.cell?_alloc_new, hC]; rfl
      have hPW : W.heap[w.heap.size]? = some (.cells (cellsI (pend s.cache k)).toArray 3 (0, 0)) := by rw [BW.out.block _ (lt_of_heap hp)]; exact hp
      have c1 : ∃ u, W.cell? ⟨w.heap.size, k, none⟩ = some u := by
        rw [cell_of_row W _ _ _ _ _ hPW]
        exact ⟨_, Array.getElem?_eq_getElem (by simp [cellsI_length, pend_length s.cache k (by rw [← NN.out]; omega), ← NN.out]; exact hlt)⟩
      obtain ⟨u, c1⟩ := c1
      have c2 : W.frozen? ⟨w.heap.size, k, none⟩ = false := frozen_of_row W _ _ _ _ hPW
      have PW := Lib.hid hPW
      have hW' := hW.symm
      clear hg hp hb hR hZ hC hW hPW
      go_wp2_with first | (refine store_new rfl 68 (.tmp 5) (.tmp 21) rfl Z C rfl rfl (size_write.trans (congrArg some HC.out.1.symm)) HC.out.2.1 HC.out.2.2 ?_; rw [hW']) | (refine load_wt rfl 68 (.tmp 20) rfl g (k * 513) rfl _ C CC.out.symm _ R.out Try.underlying68 rfl (by rw [List.length_cons, cells8_length, hr.out]; exact size_write) ?_)
      go_roundg (N - (k + 1))
      case measure => have := S.out.1; omega
      case rel => exact ⟨k + 1, by omega, rfl, by go_num, by rw [heap_setCell_same _ _ _ _ _ _ PW.out, pend_next s.cache k x hx], (S.out.2.2.trans (BW.out.mono S.out.2.2.size)).setCell (p := ⟨w.heap.size, k, none⟩) (Nat.le_refl _) _⟩
    · have ek : k = N := by omega
      subst ek
      have R : Aside (wr.heap[w.heap.size]? = some (.cells (cellsI (blocksOf s.cache)).toArray 3 (0, 0)) ∧ Below w.heap.size w wr) := ⟨by rw [← pend_all, ← NN.out]; exact hp, hb⟩
      clear hg hp hb
      go_wp2_with fail
      go_ret
      refine ⟨_, rfl, ?_, R.out.2, by rw [← NN.out]; rfl⟩
      have e : (blocksOf s.cache).length = k := by rw [NN.out]; simp [blocksOf]
      refine ⟨by rw [cellsI_length, Nat.mul_one], .inr ⟨w.heap.size, k, _, by rw [e]; rfl, Nat.le_refl _, R.out.1, by rw [e]; exact Nat.le_refl _, by unfold maxLen; omega, by simp [cellsI_length, e], ?_⟩⟩
      rw [Nat.mul_one]
      exact List.take_of_length_le (by simp [cellsI_length])
theorem pending_any {B : Nat} {w : World} {d mb mp : Nat} {cv : Value} {s : DS} (h : Dv B w d mb mp cv s) (hws : s.ws < 1099511627776) :
    Calls Try.prog 39 #[.pointer (some ⟨d, 0, none⟩)] w fun e w' => ∃ v, e = .returned v ∧ OwnI w.heap.size w' v (blocksOf s.cache) ∧ Below w.heap.size w w' := by
  refine (pending_tight h hws).mono ?_
  rintro e w' ⟨v, h1, h2, h3, _⟩
  exact ⟨v, h1, h2, h3⟩
end Go.Proofs.Ytojemioophlplaa
