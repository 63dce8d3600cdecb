/-
  Print: of every list of terms.
-/
import Derived.Test.YthbbdhhkamccbaaDoorWrB
import Derived.Test.YthbbdhhkamccbaaDoorReadK
import Derived.Lib.Split
namespace Go.Proofs.YthbbdhhkamccbaaDoor
open Go.RowKit Go.Sort
theorem made_txt (n : Nat) : madeCells (Value.string ⟨#[]⟩).cells n = (cellsS (List.replicate n ⟨#[]⟩)).toArray := by
  have h := Lib.cellsOf_nil n
  unfold Lib.cellsOf at h
  show madeCells #[.string ByteArray.empty] n = _
  rw [← h]
  simp [cellsS]
  exact .inr rfl
theorem make_txt (n : Nat) (hn : n ≤ 9) (w : World) : (Instr.makeSlice 32 (.int .i64 n) (.int .i64 n)).run Tryd.prog w = .ok (.slice (some ⟨w.heap.size, 0, none⟩) n n) (w.alloc (.cells (cellsS (List.replicate n ⟨#[]⟩)).toArray 9)) := by
  obtain ⟨i0, hi, hz0, hz1, hz2⟩ := info_parts info_str
  have h := run_make (P := Tryd.prog) w 32 9 i0 _ Tryd.underlying32 hi hz0 .i64 .i64 n n (by omega) (by omega) (by rw [hz2]; omega) (by omega)
  rw [hz1, Nat.mul_one, made_txt] at h
  exact h
/-- A row of texts, as it was made. -/
def RowX (w : World) (g : Nat) (ts : List ByteArray) : Prop := w.heap[g]? = some (.cells (cellsS ts).toArray 9 (0, 0))
theorem RowX.below {w w' : World} {g : Nat} {ts : List ByteArray} (h : RowX w g ts) (hg : g < w.heap.size) (hb : Below w.heap.size w w') : RowX w' g ts := by
  unfold RowX at *
  rw [hb.block g hg]; exact h
theorem RowX.lt {w : World} {g : Nat} {ts : List ByteArray} (h : RowX w g ts) : g < w.heap.size := by
  unfold RowX at h
  rcases Nat.lt_or_ge g w.heap.size with h' | h'
  · exact h'
  · rw [Array.getElem?_eq_none h'] at h; cases h
theorem RowX.at {w : World} {g : Nat} {ts : List ByteArray} (h : RowX w g ts) (k : Nat) (hk : k < ts.length) : w.cell? ⟨g, k, none⟩ = some (.string (ts.getD k ⟨#[]⟩)) ∧ w.frozen? ⟨g, k, none⟩ = false := by
  refine ⟨?_, frozen_of_row _ _ _ _ _ h⟩
  rw [cell_of_row _ _ _ _ _ _ h]
  have := cellsS_at ts k hk
  simpa using this
theorem RowX.set {w : World} {g : Nat} {ts : List ByteArray} (h : RowX w g ts) (k : Nat) (t : ByteArray) : RowX (w.setCell ⟨g, k, none⟩ (.string t)) g (ts.set k t) := by
  unfold RowX at *
  have e : cellsS (ts.set k t) = (cellsS ts).set k (.string t) := by simp [cellsS, List.map_set]
  rw [e]
  simp [World.setCell, Array.getElem?_modify, h]
theorem RowX.strs {w : World} {g : Nat} {ts : List ByteArray} (h : RowX w g ts) (hl : ts.length ≤ maxLen) : Strs w (.slice (some ⟨g, 0, none⟩) ts.length ts.length) ts :=
  ⟨_, ts.length, rfl, Nat.le_refl _, hl, (fun h => by cases h), fun k hk => ⟨g, 0, rfl, by rw [Nat.zero_add]; exact (h.at k hk).1⟩⟩
def wrs (xs : List Trm) : List ByteArray := xs.map fun x => bys (wr3 (t3 x))
/-- Pieces laid so far, and none behind. -/
def half (xs : List Trm) (k : Nat) : List ByteArray := wrs (xs.take k) ++ List.replicate (xs.length - k) ⟨#[]⟩
theorem half_len (xs : List Trm) (k : Nat) (hk : k ≤ xs.length) : (half xs k).length = xs.length := by
  unfold half wrs
  rw [List.length_append, List.length_map, List.length_take, List.length_replicate]; omega
theorem half_step (xs : List Trm) (k : Nat) (hk : k < xs.length) (x : Trm) (hx : xs.getD k ⟨⟨#[]⟩, 0, .slice none 0 0, []⟩ = x) : (half xs k).set k (bys (wr3 (t3 x))) = half xs (k + 1) := by
  unfold half
  have e : xs.length - k = (xs.length - (k + 1)) + 1 := by omega
  have l : (wrs (xs.take k)).length = k := by unfold wrs; rw [List.length_map, List.length_take]; omega
  rw [e, List.replicate_succ, List.set_append_right _ _ (by omega), l, Nat.sub_self, List.set_cons_zero, take_one xs k _ hk, hx]
  unfold wrs
  rw [List.map_append, List.append_assoc]
  rfl
def printR (xs : List Trm) : ByteArray × Int := if termsB xs = true then (bys (pr3 (xs.map t3)), 0) else (⟨#[]⟩, 43)
theorem wr3_small {x : Trm} (h : invalidB x = false) : (wr3 (t3 x)).length ≤ 400 := by
  obtain ⟨hn, hv⟩ := valid_parts h
  have hk : (t3 x).key.length ≤ 32 := by
    show x.key.data.toList.length ≤ 32
    have := (nm_size hn).2
    simpa using this
  have hs : ∀ t ∈ x.ts, t.size ≤ 32 := by
    intro t ht
    rcases hv with ⟨_, hv⟩ | ⟨_, hv⟩
    · exact ((values_clean hv).2.2 t ht).2
    · rw [hv] at ht; simp at ht
  have hl : x.ts.length ≤ 8 := by
    rcases hv with ⟨_, hv⟩ | ⟨_, hv⟩
    · exact (values_clean hv).2.1
    · rw [hv]; simp
  have hj : (jn 32 (t3 x).vs).length ≤ 264 := by
    have := jn_small 32 x.ts 32 hs
    show (jn 32 (x.ts.map (·.data.toList))).length ≤ _
    omega
  have hh : ((t3 x).vs.headD []).length ≤ 32 := by
    show ((x.ts.map (·.data.toList)).headD []).length ≤ 32
    cases hts : x.ts with
    | nil => simp
    | cons t r =>
      have := hs t (by rw [hts]; simp)
      simpa using this
  unfold wr3 wv3 WI WO
  split
  · omega
  split
  · rw [List.length_cons]; omega
  split <;> split <;> simp only [List.length_append, List.length_cons, List.length_nil] <;> omega
theorem pr3_small {xs : List Trm} (h : termsB xs = true) : (jn 44 ((wrs xs).map (·.data.toList))).length ≤ 3208 := by
  unfold termsB at h
  simp only [Bool.and_eq_true, decide_eq_true_eq, Bool.not_eq_true', List.any_eq_false] at h
  have := jn_small 44 (wrs xs) 400 (by
    intro t ht
    obtain ⟨x, hx, rfl⟩ := List.mem_map.1 ht
    rw [bys_size]
    exact wr3_small (by simpa using h.2 x hx))
  have l : (wrs xs).length ≤ 8 := by unfold wrs; rw [List.length_map]; exact h.1
  omega
theorem wrs_pr3 (xs : List Trm) : jn 44 ((wrs xs).map (·.data.toList)) = pr3 (xs.map t3) := by
  unfold wrs pr3
  rw [List.map_map, List.map_map]
  congr 2
set_option maxHeartbeats 8000000 in
set_option maxRecDepth 100000 in
theorem print_any (v : Value) (xs : List Trm) (w : World) (hv : Trms w v xs) :
    Calls Tryd.prog 11 #[v] w fun e w' => e = .returned (.tuple #[.string (printR xs).1, .int .i64 (printR xs).2]) ∧ Below w.heap.size w w' := by
  have V := Lib.hid hv
  have VT := Lib.hid (terms_every v xs w hv)
  obtain ⟨_, a, cap, rfl, hlc, hcm, _, _⟩ := hv
  unfold maxLen at hcm
  cases ht : termsB xs with
  | false =>
    rw [ht] at VT
    have hr : Hid (printR xs = (⟨#[]⟩, 43)) := Lib.hid (by unfold printR; rw [if_neg (by rw [ht]; simp)])
    go_enter Tryd.func11, Tryd.ntmps11
    go_wp2_with fail
    refine VT.out.mono ?_
    rintro e w1 ⟨rfl, hb⟩
    have B1 := Lib.hid hb
    clear hb
    go_wp2_with fail
    go_ret2
    exact ⟨by rw [hr.out]; rfl, B1.out⟩
  | true =>
    rw [ht] at VT
    have hr : Hid (printR xs = (bys (pr3 (xs.map t3)), 0)) := Lib.hid (by unfold printR; rw [if_pos ht])
    have PS := Lib.hid (pr3_small ht)
    have h8 : xs.length ≤ 8 := by
      unfold termsB at ht
      simp only [Bool.and_eq_true, decide_eq_true_eq] at ht
      exact ht.1
    have NV : Hid (∀ x ∈ xs, invalidB x = false) := Lib.hid (by
      unfold termsB at ht
      simp only [Bool.and_eq_true, decide_eq_true_eq, Bool.not_eq_true', List.any_eq_false] at ht
      intro x hx
      simpa using ht.2 x hx)
    obtain ⟨n, hn⟩ : ∃ n, n = xs.length := ⟨_, rfl⟩
    rw [← hn] at hlc h8 ⊢
    have HN := Lib.hid hn
    clear ht
    rw [← hn] at VT
    clear hn
    go_enter Tryd.func11, Tryd.ntmps11
    go_wp2_with fail
    refine VT.out.mono ?_
    rintro e w1 ⟨rfl, hb⟩
    have B1 := Lib.hid hb
    have mk := make_txt n (by omega) w1
    clear hb VT
    go_wp2_with fail
    clear mk
    go_loopg [15] n (fun g si wr => ∃ (k : Nat), k ≤ n ∧ g = n - k ∧ si = .int .i64 k ∧ RowX wr w1.heap.size (half xs k) ∧ Below w.heap.size w wr ∧ w1.heap.size < wr.heap.size)
    case atStart => exact ⟨0, Nat.zero_le _, rfl, rfl, by
      have e : half xs 0 = List.replicate n ⟨#[]⟩ := by unfold half; rw [HN.out]; rfl
      rw [e]
      exact heap_alloc_new w1 _, B1.out.alloc B1.out.size _, by simp⟩
    case round =>
      obtain ⟨k, hk, hg, rfl, hrow, hb, hlt1⟩ := hrel
      have R : Aside (gk = n - k ∧ RowX wr w1.heap.size (half xs k) ∧ Below w.heap.size w wr ∧ w1.heap.size < wr.heap.size) := ⟨hg, hrow, hb, hlt1⟩
      clear hg hrow hb hlt1
      by_cases hlt : k < n
      · have hlt' : (k : Int) < (n : Int) := by omega
        obtain ⟨b, off, rfl, x, hx, ex, hat, c0, c1, c2⟩ := trms_at (V.out.below R.out.2.2.1) k (by rw [← HN.out]; exact hlt)
        have WA := Lib.hid fun W h => write_any x W (hat.below h) (NV.out x hx)
        have EX := Lib.hid ex
        obtain ⟨key, how, vals, ts⟩ := x
        obtain ⟨av, cv, ev, _, _⟩ := hat.1.len
        simp only at ev
        subst ev
        unfold Trm.cells at WA
        simp only at c0 c1 c2
        obtain ⟨m, hm⟩ : ∃ m, m = ts.length := ⟨_, rfl⟩
        rw [← hm] at c2 WA EX
        obtain ⟨X, hX⟩ : ∃ X, X = wr.alloc (.cells #[.string key, .int .i64 how, .slice av m cv] 41) := ⟨_, rfl⟩
        have AX : Hid (Below wr.heap.size wr X) := Lib.hid (by rw [hX]; exact (Below.refl _ wr).alloc (Nat.le_refl _) _)
        have b0 : X.cell? ⟨wr.heap.size, 0, none⟩ = some (.string key) := by rw [hX, World.cell?_alloc_new]; rfl
        have b1 : X.cell? ⟨wr.heap.size, 1, none⟩ = some (.int .i64 how) := by rw [hX, World.cell?_alloc_new]; rfl
        have b2 : X.cell? ⟨wr.heap.size, 2, none⟩ = some (.slice av m cv) := by rw [hX, World.cell?_alloc_new]; rfl
        have hX' := hX.symm
        obtain ⟨s, hs⟩ : ∃ s, s = bys (wr3 (t3 ⟨key, how, .slice av m cv, ts⟩)) := ⟨_, rfl⟩
        rw [← hs] at WA
        have HS := Lib.hid hs
        clear hX hat hx ex hs hm
        go_wp2_with fail
        clear b0 b1 b2 hX'
        refine (WA.out X AX.out).mono ?_
        rintro e w2 ⟨rfl, hb⟩
        have RX := Lib.hid ((R.out.2.1.below R.out.2.1.lt AX.out).below (Nat.lt_of_lt_of_le R.out.2.1.lt AX.out.size) hb)
        have B2 := Lib.hid (R.out.2.2.1.trans ((AX.out.trans (hb.mono AX.out.size)).mono R.out.2.2.1.size))
        obtain ⟨p0, f0⟩ := RX.out.at k (by rw [half_len _ _ (by have := HN.out; omega), ← HN.out]; exact hlt)
        have z2 : w1.heap.size < w2.heap.size := RX.out.lt
        clear hb WA AX
        go_wp2_with fail
        go_roundg (n - (k + 1))
        case measure => have := R.out.1; omega
        case rel =>
          refine ⟨k + 1, by omega, rfl, by go_num, ?_, B2.out.setCell (p := ⟨w1.heap.size, k, none⟩) B1.out.size _, by simpa using z2⟩
          rw [← half_step xs k (by rw [← HN.out]; exact hlt) _ EX.out, ← HS.out]
          exact RX.out.set k s
      · have ek : k = n := by omega
        have hw : half xs k = wrs xs := by
          unfold half
          rw [List.take_of_length_le (by rw [← HN.out]; omega), show xs.length - k = 0 by rw [← HN.out]; omega]
          simp
        have ll : (wrs xs).length = n := by unfold wrs; rw [List.length_map, ← HN.out]
        have JN := Lib.hid (joins_any (.slice (some ⟨w1.heap.size, 0, none⟩) n n) (wrs xs) 44 wr (by
          have h := R.out.2.1
          rw [hw] at h
          have h2 := h.strs (by rw [ll]; unfold maxLen; omega)
          rw [ll] at h2
          exact h2) (by have := PS.out; omega))
        rw [wrs_pr3] at JN
        clear hw ll
        go_wp2_with fail
        refine JN.out.mono ?_
        rintro e w2 ⟨rfl, hb⟩
        have B2 := Lib.hid (R.out.2.2.1.trans (hb.mono R.out.2.2.1.size))
        clear hb
        go_wp2_with fail
        go_ret2
        exact ⟨by rw [hr.out]; rfl, B2.out⟩
end Go.Proofs.YthbbdhhkamccbaaDoor
