/-
  Print: of every list of terms.
-/
import Derived.Test.YtjlpcklcnabldaaDoorLWrB
import Derived.Test.YtjlpcklcnabldaaDoorLReadK
import Derived.Lib.Split
namespace Go.Proofs.YtjlpcklcnabldaaDoor.L
open Go.RowKit Go.Sort
theorem made_txt (n : Nat) : madeCells (Value.string ⟨#[]⟩).cells n = (cellsS (List.replicate n ⟨#[]⟩)).toArray := by
  have h := Lib.cellsOf_nil n
  unfold Lib.cellsOf at h
  show madeCells #[.string ByteArray.empty] n = _
  rw [← h]
  simp [cellsS]
  exact .inr rfl
theorem make_txt (n : Nat) (hn : n ≤ 9) (w : World) : (Instr.makeSlice 23 (.int .i64 n) (.int .i64 n)).run Tryd.prog w = .ok (.slice (some ⟨w.heap.size, 0, none⟩) n n) (w.alloc (.cells (cellsS (List.replicate n ⟨#[]⟩)).toArray 9)) := by
  obtain ⟨i0, hi, hz0, hz1, hz2⟩ := info_parts info_str
  have h := run_make (P := Tryd.prog) w 23 9 i0 _ Tryd.underlying23 hi hz0 .i64 .i64 n n (by omega) (by omega) (by rw [hz2]; omega) (by omega)
  rw [hz1, Nat.mul_one, made_txt] at h
  exact h
/-- A row of texts, as it was made. -/
def RowX (w : World) (g : Nat) (ts : List ByteArray) : Prop := w.heap[g]? = some (.cells (cellsS ts).toArray 9 (0, 0))
theorem RowX.below {w w' : World} {g : Nat} {ts : List ByteArray} (h : RowX w g ts) (hg : g < w.heap.size) (hb : Below w.heap.size w w') : RowX w' g ts := by
  unfold RowX at *
  rw [hb.block g hg]; exact h
theorem RowX.lt {w : World} {g : Nat} {ts : List ByteArray} (h : RowX w g ts) : g < w.heap.size := by
  unfold RowX at h
  rcases Nat.lt_or_ge g w.heap.size with h' | h'
  · exact h'
  · rw [Array.getElem?_eq_none h'] at h; cases h
theorem RowX.at {w : World} {g : Nat} {ts : List ByteArray} (h : RowX w g ts) (k : Nat) (hk : k < ts.length) : w.cell? ⟨g, k, none⟩ = some (.string (ts.getD k ⟨#[]⟩)) ∧ w.frozen? ⟨g, k, none⟩ = false := by
  refine ⟨?_, frozen_of_row _ _ _ _ _ h⟩
  rw [cell_of_row _ _ _ _ _ _ h]
  have := cellsS_at ts k hk
  simpa using this
theorem RowX.set {w : World} {g : Nat} {ts : List ByteArray} (h : RowX w g ts) (k : Nat) (t : ByteArray) : RowX (w.setCell ⟨g, k, none⟩ (.string t)) g (ts.set k t) := by
  unfold RowX at *
  have e : cellsS (ts.set k t) = (cellsS ts).set k (.string t) := by simp [cellsS, List.map_set]
  rw [e]
  simp [World.setCell, Array.getElem?_modify, h]
theorem RowX.strs {w : World} {g : Nat} {ts : List ByteArray} (h : RowX w g ts) (hl : ts.length ≤ maxLen) : Strs w (.slice (some ⟨g, 0, none⟩) ts.length ts.length) ts :=
  ⟨_, ts.length, rfl, Nat.le_refl _, hl, (fun h => by cases h), fun k hk => ⟨g, 0, rfl, by rw [Nat.zero_add]; exact (h.at k hk).1⟩⟩
def wrs (xs : List Trm) : List ByteArray := xs.map fun x => bys (wr3 (t3 x))
/-- Pieces laid so far, and none behind. -/
def half (xs : List Trm) (k : Nat) : List ByteArray := wrs (xs.take k) ++ List.replicate (xs.length - k) ⟨#[]⟩
theorem half_len (xs : List Trm) (k : Nat) (hk : k ≤ xs.length) : (half xs k).length = xs.length := by
  unfold half wrs
  rw [List.length_append, List.length_map, List.length_take, List.length_replicate]; omega
theorem half_step (xs : List Trm) (k : Nat) (hk : k < xs.length) (x : Trm) (hx : xs.getD k ⟨⟨#[]⟩, 0, .slice none 0 0, []⟩ = x) : (half xs k).set k (bys (wr3 (t3 x))) = half xs (k + 1) := by
  unfold half
  have e : xs.length - k = (xs.length - (k + 1)) + 1 := by omega
  have l : (wrs (xs.take k)).length = k := by unfold wrs; rw [List.length_map, List.length_take]; omega
  rw [e, List.replicate_succ, List.set_append_right _ _ (by omega), l, Nat.sub_self, List.set_cons_zero, take_one xs k _ hk, hx]
  unfold wrs
  rw [List.map_append, List.append_assoc]
  rfl
def printR (xs : List Trm) : ByteArray × Int := if termsB xs = true then (bys (pr3 (xs.map t3)), 0) else (⟨#[]⟩, 43)
theorem wr3_small {x : Trm} (h : invalidB x = false) : (wr3 (t3 x)).length ≤ 400 := by
  obtain ⟨hn, hv⟩ := valid_parts h
  have hk : (t3 x).key.length ≤ 32 := by
    show x.key.data.toList.length ≤ 32
    have := (nm_size hn).2
    simpa using this
  have hs : ∀ t ∈ x.ts, t.size ≤ 32 := by
    intro t ht
    rcases hv with ⟨_, hv⟩ | ⟨_, hv⟩
    · exact ((values_clean hv).2.2 t ht).2
    · rw [hv] at ht; simp at ht
  have hl : x.ts.length ≤ 8 := by
    rcases hv with ⟨_, hv⟩ | ⟨_, hv⟩
    · exact (values_clean hv).2.1
    · rw [hv]; simp
  have hj : (jn 32 (t3 x).vs).length ≤ 264 := by
    have := jn_small 32 x.ts 32 hs
    show (jn 32 (x.ts.map (·.data.toList))).length ≤ _
    omega
  have hh : ((t3 x).vs.headD []).length ≤ 32 := by
    show ((x.ts.map (·.data.toList)).headD []).length ≤ 32
    cases hts : x.ts with
    | nil => simp
    | cons t r =>
      have := hs t (by rw [hts]; simp)
      simpa using this
  unfold wr3 wv3 WI WO
  split
  · omega
  split
  · rw [List.length_cons]; omega
  split <;> split <;> simp only [List.length_append, List.length_cons, List.length_nil] <;> omega
theorem pr3_small {xs : List Trm} (h : termsB xs = true) : (jn 44 ((wrs xs).map (·.data.toList))).length ≤ 3208 := by
  unfold termsB at h
  simp only [Bool.and_eq_true, decide_eq_true_eq, Bool.not_eq_true', List.any_eq_false] at h
  have := jn_small 44 (wrs xs) 400 (by
    intro t ht
    obtain ⟨x, hx, rfl⟩ := List.mem_map.1 ht
    rw [bys_size]
    exact wr3_small (by simpa using h.2 x hx))
  have l : (wrs xs).length ≤ 8 := by unfold wrs; rw [List.length_map]; exact h.1
  omega
theorem wrs_pr3 (xs : List Trm) : jn 44 ((wrs xs).map (·.data.toList)) = pr3 (xs.map t3) := by
  unfold wrs pr3
  rw [List.map_map, List.map_map]
  congr 2
end Go.Proofs.YtjlpcklcnabldaaDoor.L
