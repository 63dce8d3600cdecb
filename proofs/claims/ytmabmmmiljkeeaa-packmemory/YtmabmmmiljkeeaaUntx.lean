/-
  THE WALK of Untexts.
-/
import Derived.Test.YtmabmmmiljkeeaaStrs
namespace Go.Proofs.Ytmabmmmiljkeeaa
open Go.RowKit

/-- So many texts, and what is left. -/
def RS.texts : RS → Nat → List (List UInt8) × RS
  | s, 0 => ([], s)
  | s, n + 1 => ((s.text 1048576).1 :: ((s.text 1048576).2.texts n).1, ((s.text 1048576).2.texts n).2)
theorem texts_len (s : RS) (n : Nat) : (s.texts n).1.length = n := by
  induction n generalizing s with
  | zero => rfl
  | succ n ih => simp [RS.texts, ih]
/-- What Untexts makes of bytes: the reader at the end, the texts. -/
def unt (l : List UInt8) : List (List UInt8) × RS := (RS.count ⟨l, 0⟩ 4096).2.texts (RS.count ⟨l, 0⟩ 4096).1
def untE (l : List UInt8) : Nat := if 1048576 < l.length then 23 else (unt l).2.fin
def untT (l : List UInt8) : List ByteArray := if untE l = 0 then (unt l).1.map txt else []
theorem upTo_le (s : RS) (m : Int) : ((s.upTo m).1 : Int) ≤ max m 0 := by
  unfold RS.upTo
  repeat' split
  all_goals first | (simp only []; omega) | omega
theorem count_le (l : List UInt8) : (RS.count ⟨l, 0⟩ 4096).1 ≤ 4096 := by
  have h := upTo_le ⟨l, 0⟩ (min 4096 4096)
  unfold RS.count
  show (RS.upTo ⟨l, 0⟩ (min 4096 4096)).1 ≤ 4096
  omega
theorem make_strs (w : World) {a : Int} (n : Nat) (ha : a = n) (h : n ≤ 4096) :
    (Instr.makeSlice 22 (.int .i64 a) (.int .i64 a)).run Try.prog w = .ok (.slice (some ⟨w.heap.size, 0, none⟩) n n) (w.alloc (.cells (madeCells #[.string ⟨#[]⟩] n) 9)) := by
  subst ha
  obtain ⟨i0, hi, hz0, hz1, hz2⟩ := info_parts info_str
  have h := run_make (P := Try.prog) w 22 9 i0 (.string ⟨#[]⟩) Try.underlying22 hi hz0 .i64 .i64 (n : Int) (n : Int) (by omega) (by omega) (by rw [hz2]; omega) (by omega)
  simpa [hz1, Value.cells] using h
theorem made_at (n j : Nat) (y : Value) (h : (madeCells #[Value.string ⟨#[]⟩] n)[j]? = some y) : y = .string ⟨#[]⟩ := by
  rw [← Array.getElem?_toList, toList_madeCells_one] at h
  exact (List.mem_replicate.1 (List.mem_of_getElem? h)).2
theorem Read.below' {B g : Nat} {s : RS} {w w' : World} (h : Read g s w w') (hB : B ≤ w.heap.size) (hg : B ≤ g) : Below B w w' := h.2.below hB (fun x hx => by rw [hx]; exact hg)
/-- The row of texts, k of them set. -/
def Row (w : World) (g n k : Nat) (ts : List (List UInt8)) : Prop :=
  ∃ cs : Array Value, w.heap[g]? = some (.cells cs 9 (0, 0)) ∧ cs.size = n ∧ (∀ j : Nat, j < k → cs[j]? = some (.string (txt (ts.getD j [])))) ∧ ∀ (j : Nat) (y : Value), cs[j]? = some y → ∃ t, y = Value.string t
theorem Row.no8 {w : World} {g n k : Nat} {ts : List (List UInt8)} (h : Row w g n k ts) : ∀ b o c, w.cell? ⟨b, o, none⟩ = some (.int .u8 c) → ¬ b = g := by
  rintro b o c hc rfl
  obtain ⟨cs, hg, _, _, hall⟩ := h
  rw [cell_of_row w b o _ _ _ hg] at hc
  obtain ⟨t, ht⟩ := hall o _ hc
  simp at ht
theorem Row.set {w : World} {g n k : Nat} {ts : List (List UInt8)} (h : Row w g n k ts) (hk : k < n) (t : List UInt8) (ht : ts.getD k [] = t) : Row (w.setCell ⟨g, k, none⟩ (.string (txt t))) g n (k + 1) ts := by
  obtain ⟨cs, hg, hs, hd, hall⟩ := h
  refine ⟨cs.setIfInBounds k (.string (txt t)), ?_, by simp [hs], fun j hj => ?_, fun j y hy => ?_⟩
  · rw [heap_setCell_same w g k _ _ _ hg]
  · rw [Array.getElem?_setIfInBounds]
    by_cases q : k = j
    · rw [if_pos q, if_pos (by omega), ← q, ht]
    · rw [if_neg q]; exact hd j (by omega)
  · rw [Array.getElem?_setIfInBounds] at hy
    by_cases q : k = j
    · rw [if_pos q] at hy
      split at hy
      · simp only [Option.some.injEq] at hy; exact ⟨_, hy.symm⟩
      · simp at hy
    · rw [if_neg q] at hy; exact hall j y hy
theorem Row.kept {F : Nat → Prop} {w w' : World} {g n k : Nat} {ts : List (List UInt8)} (h : Row w g n k ts) (hk : Kept F w w') (hF : ¬ F g) : Row w' g n k ts := by
  obtain ⟨cs, hg, hs, hd, hall⟩ := h
  have hlt : g < w.heap.size := by
    rcases Nat.lt_or_ge g w.heap.size with h | h
    · exact h
    · rw [Array.getElem?_eq_none h] at hg; simp at hg
  exact ⟨cs, by rw [hk.block g hlt hF]; exact hg, hs, hd, hall⟩
theorem Row.cell {w : World} {g n k : Nat} {ts : List (List UInt8)} (h : Row w g n k ts) (j : Nat) (hj : j < n) : (∃ t, w.cell? ⟨g, j, none⟩ = some (.string t)) ∧ w.frozen? ⟨g, j, none⟩ = false := by
  obtain ⟨cs, hg, hs, hd, hall⟩ := h
  refine ⟨?_, frozen_of_row w g j _ _ hg⟩
  rw [cell_of_row w g j _ _ _ hg]
  obtain ⟨y, hy⟩ : ∃ y, cs[j]? = some y := ⟨_, Array.getElem?_eq_getElem (by omega)⟩
  obtain ⟨t, ht⟩ := hall j y hy
  exact ⟨t, by rw [hy, ht]⟩
theorem Row.own {w : World} {B g n : Nat} {ts : List (List UInt8)} (h : Row w g n n ts) (hB : B ≤ g) (hl : ts.length = n) (hn : n ≤ maxLen) : OwnS B w (.slice (some ⟨g, 0, none⟩) n n) (ts.map txt) := by
  obtain ⟨cs, hg, hs, hd, _⟩ := h
  show w.ownsRow _ _ _ _ _ _
  rw [List.length_map, hl]
  refine ⟨by simp [cellsS, hl], .inr ⟨g, n, cs, rfl, hB, hg, Nat.le_refl _, hn, by omega, ?_⟩⟩
  apply List.ext_getElem?
  intro j
  by_cases q : j < n
  · rw [List.getElem?_take_of_lt (by omega), Array.getElem?_toList, hd j q]
    simp [cellsS, List.getD, show j < ts.length by omega]
  · rw [List.getElem?_eq_none (by rw [List.length_take, Array.length_toList]; omega), List.getElem?_eq_none (by simp [cellsS]; omega)]
theorem texts_drop (s : RS) (n k : Nat) (hk : k ≤ n) : (s.texts n).2 = ((s.texts k).2.texts (n - k)).2 ∧ (∀ j, j < k → (s.texts n).1.getD j [] = (s.texts k).1.getD j []) := by
  induction k generalizing s n with
  | zero => exact ⟨rfl, fun j hj => by omega⟩
  | succ k ih =>
    obtain ⟨m, rfl⟩ : ∃ m, n = m + 1 := ⟨n - 1, by omega⟩
    obtain ⟨h1, h2⟩ := ih (s.text 1048576).2 m (by omega)
    refine ⟨?_, fun j hj => ?_⟩
    · show (((s.text 1048576).2).texts m).2 = _
      rw [h1, show m + 1 - (k + 1) = m - k by omega]; rfl
    · cases j with
      | zero => rfl
      | succ j => exact h2 j (by omega)
theorem texts_at (s : RS) (n k : Nat) (hk : k < n) : (s.texts n).1.getD k [] = ((s.texts k).2.text 1048576).1 ∧ (s.texts (k + 1)).2 = ((s.texts k).2.text 1048576).2 := by
  induction k generalizing s n with
  | zero =>
    obtain ⟨m, rfl⟩ : ∃ m, n = m + 1 := ⟨n - 1, by omega⟩
    exact ⟨rfl, rfl⟩
  | succ k ih =>
    obtain ⟨m, rfl⟩ : ∃ m, n = m + 1 := ⟨n - 1, by omega⟩
    have := ih (s.text 1048576).2 m (by omega)
    exact this

set_option maxHeartbeats 4000000 in
set_option maxRecDepth 100000 in
theorem untexts_any (v : Value) (l : List UInt8) (w : World) (hv : Bytes w v l) :
    Calls Try.prog 12 #[v] w fun e w' => ∃ v', e = .returned (.tuple #[v', .int .i64 (untE l)]) ∧ OwnS w.heap.size w' v' (untT l) ∧ Below w.heap.size w w' := by
  have V : Aside (Bytes w v l) := hv
  obtain ⟨a, cap, rfl, hlc, hcm⟩ := hv.len
  unfold maxLen at hcm
  clear hv
  go_enter Try.func12, Try.ntmps12
  by_cases hbig : 1048576 < l.length
  · have hbig' : ((l.length : Int) > 1048576) := by omega
    have E : Aside (untE l = 23 ∧ untT l = []) := by
      have e1 : untE l = 23 := by unfold untE; rw [if_pos hbig]
      exact ⟨e1, by unfold untT; rw [e1, if_neg (by decide)]⟩
    go_wp2_with fail
    go_ret2
    rw [E.out.1, E.out.2]
    exact ⟨_, rfl, World.ownsRow_nil _ _ _ _, Below.refl _ _⟩
  · have hbig' : ¬ ((l.length : Int) > 1048576) := by omega
    have UE : Aside (untE l = (unt l).2.fin) := by unfold untE; rw [if_neg hbig]; rfl
    go_wp2_with fail
    refine (newReader_any _ l w V.out (by omega)).mono ?_
    rintro e w1 ⟨g, rfl, hr, hg, hb⟩
    have A1 : Aside (RAt w1 g ⟨l, 0⟩ ∧ w.heap.size ≤ g ∧ Below w.heap.size w w1) := ⟨hr, hg, hb⟩
    clear hr hg hb
    go_wp2_with fail
    refine (rCount_any g 4096 _ w1 (by decide) A1.out.1).mono ?_
    rintro e w2 ⟨rfl, hr⟩
    have cle := count_le l
    obtain ⟨n, hn⟩ : ∃ n, n = (RS.count ⟨l, 0⟩ 4096).1 := ⟨_, rfl⟩
    obtain ⟨s1, hs1⟩ : ∃ s1, s1 = (RS.count ⟨l, 0⟩ 4096).2 := ⟨_, rfl⟩
    rw [← hs1] at hr
    rw [← hn] at cle ⊢
    have UU : Aside (unt l = s1.texts n) := by unfold unt; rw [hn, hs1]; rfl
    have A2 : Aside (RAt w2 g s1 ∧ Below w.heap.size w w2) := ⟨hr.1, A1.out.2.2.trans (hr.below' A1.out.2.2.size A1.out.2.1)⟩
    have hmk := make_strs w2 n rfl cle
    have b3 : Below w2.heap.size w2 (w2.alloc (.cells (madeCells #[.string ⟨#[]⟩] n) 9)) := (Below.refl _ _).alloc (Nat.le_refl _) _
    have A3 : Aside (RAt (w2.alloc (.cells (madeCells #[.string ⟨#[]⟩] n) 9)) g s1 ∧ Below w.heap.size w (w2.alloc (.cells (madeCells #[.string ⟨#[]⟩] n) 9)) ∧ Row (w2.alloc (.cells (madeCells #[.string ⟨#[]⟩] n) 9)) w2.heap.size n 0 (s1.texts n).1) := by
      refine ⟨A2.out.1.below b3, A2.out.2.trans (b3.mono A2.out.2.size), _, heap_alloc_new w2 _, size_madeCells _ _, fun j hj => by omega, fun j y hy => ⟨_, made_at n j y hy⟩⟩
    have gl : Aside (g < w2.heap.size) := A2.out.1.lt
    clear hn hs1 hr b3
    go_wp2_with fail
    clear hmk
    go_loopg [18] n (fun g0 si wr => ∃ (k : Nat), k ≤ n ∧ g0 = n - k ∧ si = .int .i64 k ∧ RAt wr g (s1.texts k).2 ∧ Row wr w2.heap.size n k (s1.texts n).1 ∧ Below w.heap.size w wr ∧ w2.heap.size < wr.heap.size)
    case atStart => exact ⟨0, Nat.zero_le _, rfl, rfl, A3.out.1, A3.out.2.2, A3.out.2.1, by simp⟩
    case round =>
      obtain ⟨k, hk, hg, rfl, hr, hrow, hb, hsz⟩ := hrel
      have R : Aside (gk = n - k ∧ RAt wr g (s1.texts k).2 ∧ Row wr w2.heap.size n k (s1.texts n).1 ∧ Below w.heap.size w wr ∧ w2.heap.size < wr.heap.size) := ⟨hg, hr, hrow, hb, hsz⟩
      clear hg hr hrow hb hsz
      by_cases hlt : k < n
      · go_wp2_with fail
        refine (rText_any g 1048576 _ wr (by decide) (by decide) R.out.2.1).mono ?_
        rintro e w4 ⟨rfl, hr⟩
        have ta := texts_at s1 n k hlt
        rw [← ta.2] at hr
        have row4 : Row w4 w2.heap.size n k (s1.texts n).1 := R.out.2.2.1.kept hr.2 (by have := gl.out; omega)
        obtain ⟨⟨t0, c0⟩, f0⟩ := row4.cell k hlt
        obtain ⟨t, ht⟩ : ∃ t, t = ((s1.texts k).2.text 1048576).1 := ⟨_, rfl⟩
        rw [← ht] at ta ⊢
        have R4 : Aside (RAt w4 g (s1.texts (k + 1)).2 ∧ Row w4 w2.heap.size n k (s1.texts n).1 ∧ Below w.heap.size w w4 ∧ w2.heap.size < w4.heap.size ∧ (s1.texts n).1.getD k [] = t) :=
          ⟨hr.1, row4, R.out.2.2.2.1.trans (hr.below' R.out.2.2.2.1.size A1.out.2.1), Nat.lt_of_lt_of_le R.out.2.2.2.2 hr.2.size, ta.1⟩
        clear hr row4 ta ht
        go_wp2_with fail
        go_roundg (n - (k + 1))
        case measure => have := R.out.1; omega
        case rel =>
          have ks : Kept (fun b => b = w2.heap.size) w4 (w4.setCell ⟨w2.heap.size, k, none⟩ (.string (txt t))) := kept_set w4 ⟨w2.heap.size, k, none⟩ _ rfl
          refine ⟨k + 1, by omega, rfl, by go_num, R4.out.1.kept ks (by have := gl.out; omega) R4.out.2.1.no8, R4.out.2.1.set hlt t R4.out.2.2.2.2, R4.out.2.2.1.trans (ks.below R4.out.2.2.1.size (fun x hx => by rw [hx]; exact A2.out.2.size)), by simpa [World.setCell] using R4.out.2.2.2.1⟩
      · obtain rfl : k = n := by omega
        go_wp2_with fail
        refine (rEnd_any g _ wr R.out.2.1).mono ?_
        rintro e w4 ⟨rfl, hr⟩
        have ef : (s1.texts k).2.fin = untE l := by rw [UE.out, UU.out]
        rw [ef]
        have row4 : Row w4 w2.heap.size k k (s1.texts k).1 := R.out.2.2.1.kept hr.2 (by have := gl.out; omega)
        have R4 : Aside (Row w4 w2.heap.size k k (s1.texts k).1 ∧ Below w.heap.size w w4) := ⟨row4, R.out.2.2.2.1.trans (hr.below' R.out.2.2.2.1.size A1.out.2.1)⟩
        clear hr ef row4
        by_cases he : untE l = 0
        · have he' : (untE l : Int) = 0 := by omega
          have T : Aside (untT l = (s1.texts k).1.map txt) := by unfold untT; rw [if_pos he, UU.out]; rfl
          go_wp2_with fail
          go_ret2
          rw [T.out, he]
          exact ⟨_, rfl, R4.out.1.own A2.out.2.size (texts_len s1 k) (by unfold maxLen; omega), R4.out.2⟩
        · have he' : ¬ (untE l : Int) = 0 := by omega
          have T : Aside (untT l = []) := by unfold untT; rw [if_neg he]; rfl
          clear he
          go_wp2_with fail
          go_ret2
          rw [T.out]
          exact ⟨_, rfl, World.ownsRow_nil _ _ _ _, R4.out.2⟩
end Go.Proofs.Ytmabmmmiljkeeaa
