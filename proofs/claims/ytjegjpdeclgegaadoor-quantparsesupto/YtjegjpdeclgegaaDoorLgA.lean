/-
  The document's Long: cut, long, at.
-/
import Derived.Test.YtjegjpdeclgegaaDoorLgM
import Derived.Lib.QuietBelow
import Derived.BigQuiet
namespace Go.Proofs.YtjegjpdeclgegaaDoor
open Go.RowKit Go.Lib
namespace Lg
def kI : Kd Nat := ⟨fun x => [.int .i64 (x : Int)], 1, 3, 38, 8, 0⟩
theorem okI : kI.Ok := ⟨fun _ => rfl, by decide, fun x u hu => by simp only [kI, List.mem_cons, List.not_mem_nil, or_false] at hu; subst hu; rfl, Tryd.underlying38, ⟨_, (by kernel_rfl : (Tryd.prog.info? 3).map (fun i => (i.zero, i.size, i.bytes)) = some (some (.int .i64 0), 1, 8)), rfl⟩, by decide⟩
theorem takeR {α : Type} {K : Kd α} {w : World} {a : Option Addr} {n cap : Nat} {l : List α} (H : Row K w (.slice a n cap) l) (k : Nat) (hk : k ≤ l.length) : Row K w (.slice a k cap) (l.take k) := by
  obtain ⟨a', cap', e', h1, h2, h0, hc⟩ := H
  simp only [Value.slice.injEq] at e'
  obtain ⟨rfl, rfl, rfl⟩ := e'
  have e : (l.take k).length = k := by rw [List.length_take]; omega
  refine ⟨a, cap, by rw [e], by rw [e]; omega, h2, h0, fun j hj => ?_⟩
  rw [e] at hj
  obtain ⟨b', off', ea, hcc⟩ := hc j (by omega)
  refine ⟨b', off', ea, fun i y hy => hcc i y ?_⟩
  have e2 : (l.take k).getD j K.z = l.getD j K.z := by rw [List.getD_eq_getElem?_getD, List.getElem?_take_of_lt hj, List.getD_eq_getElem?_getD]
  rw [e2] at hy; exact hy
theorem Row.one {w : World} {a : Option Addr} {n cap : Nat} {d : List Nat} (H : Row kI w (.slice a n cap) d) (k : Nat) (hk : k < d.length) : ∃ b off, a = some ⟨b, off, none⟩ ∧ w.cell? ⟨b, off + k, none⟩ = some (.int .i64 (d.getD k 0 : Nat)) := by
  obtain ⟨b, off, e, h⟩ := H.at k hk
  refine ⟨b, off, e, ?_⟩
  have q := h 0 (.int .i64 (d.getD k 0 : Nat)) rfl
  have e2 : off + k * kI.k + 0 = off + k := by show off + k * 1 + 0 = _; omega
  rw [e2] at q; exact q
theorem cell1 {w : World} {g : Nat} {s : Value} {t : TypeId} (h : w.heap[g]? = some (.cells #[s] t (0, 0))) : w.cell? ⟨g, 0, none⟩ = some s := by simp [World.cell?, h]
theorem frz {w : World} {g : Nat} {cs : Array Value} {t : TypeId} (h : w.heap[g]? = some (.cells cs t (0, 0))) (j : Nat) : w.frozen? ⟨g, j, none⟩ = false := by
  unfold World.frozen?; rw [h]; simp
theorem set1 {w : World} {g : Nat} {s : Value} {t : TypeId} (h : w.heap[g]? = some (.cells #[s] t (0, 0))) (x : Value) : (w.setCell ⟨g, 0, none⟩ x).heap[g]? = some (.cells #[x] t (0, 0)) := by
  rw [heap_setCell_same _ _ _ _ _ _ h]; rfl
/-- A row of numbers stays, where a block that holds one slice is written. -/
theorem row_set {w : World} {g : Nat} {a0 : Option Addr} {n0 c0 : Nat} {t : TypeId} (h : w.heap[g]? = some (.cells #[.slice a0 n0 c0] t (0, 0))) {v : Value} {d : List Nat} (H : Row kI w v d) (x : Value) : Row kI (w.setCell ⟨g, 0, none⟩ x) v d := by
  obtain ⟨a, cap, e, h1, h2, h0, hc⟩ := H
  refine ⟨a, cap, e, h1, h2, h0, fun k hk => ?_⟩
  obtain ⟨b, off, ea, hcc⟩ := hc k hk
  refine ⟨b, off, ea, fun j y hy => ?_⟩
  have q := hcc j y hy
  have hb : b ≠ g := by
    rintro rfl
    have hj : j = 0 := by
      rcases Nat.eq_zero_or_pos j with z | z
      · exact z
      · rw [List.getElem?_eq_none (by show 1 ≤ j; omega)] at hy; cases hy
    subst hj
    have ey : y = .int .i64 ((d.getD k 0 : Nat) : Int) := by
      have : some (Value.int .i64 ((d.getD k 0 : Nat) : Int)) = some y := hy
      injection this with this; exact this.symm
    subst ey
    unfold World.cell? at q
    rw [h] at q
    simp only at q
    rcases Nat.eq_zero_or_pos (off + k * kI.k + 0) with z | z
    · rw [z] at q; simp at q
    · rw [Array.getElem?_eq_none (by show 1 ≤ _; omega)] at q; simp at q
  rw [← q]
  exact World.cell?_of_block (Below.heap_setCell _ _ _ _ hb)
theorem size_long : (Tryd.prog.info? 40).map (·.size) = some 1 := by kernel_rfl
set_option maxHeartbeats 4000000 in
set_option maxRecDepth 100000 in
theorem cut_at (va : Option Addr) (n0 vc : Nat) (d : List Nat) (w : World) (hv : Row kI w (.slice va n0 vc) d) (hd : Dgs d) :
    Calls Tryd.prog 28 #[.slice va n0 vc] w fun e w' => ∃ n c, e = .returned (.agg #[.slice va n c]) ∧ Row kI w' (.slice va n c) (dg (vl d)) ∧ Below w.heap.size w w' := by
  have V := Lib.hid hv
  have HD := Lib.hid hd
  obtain ⟨va', vc', eq0, hlc, hcm⟩ := hv.len
  simp only [Value.slice.injEq] at eq0
  obtain ⟨rfl, rfl, rfl⟩ := eq0
  unfold maxLen at hcm
  obtain ⟨n, hn⟩ : ∃ n, n = d.length := ⟨_, rfl⟩
  rw [← hn] at hlc V ⊢
  have HN := Lib.hid hn
  have BA : Hid (∀ o, Below w.heap.size w (w.alloc o)) := Lib.hid fun o => (Below.refl _ w).alloc (Nat.le_refl _) o
  clear hv hn hd
  go_enter Tryd.func28, Tryd.ntmps28
  go_wp2_with fail
  go_loopg [3] n (fun g si wr => ∃ (k : Nat), k ≤ n ∧ g = k ∧ si = .int .i64 k ∧ (∀ j, k ≤ j → d.getD j 0 = 0) ∧ wr = w.alloc (.cells #[.slice none 0 0] 40))
  case atStart => exact ⟨n, Nat.le_refl _, rfl, rfl, (fun j hj => by rw [List.getD_eq_getElem?_getD, List.getElem?_eq_none (by rw [← HN.out]; exact hj)]; rfl), rfl⟩
  case round =>
    obtain ⟨k, hk, hg, rfl, hz, rfl⟩ := hrel
    have R : Hid (gk = k ∧ ∀ j, k ≤ j → d.getD j 0 = 0) := Lib.hid ⟨hg, hz⟩
    clear hg hz
    rcases Nat.eq_zero_or_pos k with h0 | h0
    · subst h0
      have EQ : Hid (d.take 0 = dg (vl d)) := Lib.hid (cut_dg HD.out 0 (Nat.zero_le _) R.out.2 (Or.inl rfl))
      cases va with
      | none =>
        go_wp2_with fail
        refine bodyPost_ret (results_cell_row rfl _ _ w.heap.size 40 #[_] (0, 0) _ rfl (heap_alloc_new _ _) Tryd.underlying40 rfl size_long) rfl ?_
        refine ⟨0, vc, rfl, ?_, BA.out _⟩
        have q := takeR V.out 0 (Nat.zero_le _)
        rw [EQ.out] at q
        exact q.below (BA.out _)
      | some ad =>
        go_wp2_with fail
        refine bodyPost_ret (results_cell_row rfl _ _ w.heap.size 40 #[_] (0, 0) _ rfl (heap_alloc_new _ _) Tryd.underlying40 rfl size_long) rfl ?_
        refine ⟨0, vc, rfl, ?_, BA.out _⟩
        have q := takeR V.out 0 (Nat.zero_le _)
        rw [EQ.out] at q
        exact q.below (BA.out _)
    · obtain ⟨i, rfl⟩ : ∃ i, k = i + 1 := ⟨k - 1, by omega⟩
      have ei : (((i + 1 : Nat) : Int) - 1) = (i : Int) := by omega
      obtain ⟨b, off, rfl, c0⟩ := Row.one V.out i (by rw [← HN.out]; omega)
      obtain ⟨x, hx⟩ : ∃ x, x = d.getD i 0 := ⟨_, rfl⟩
      rw [← hx] at c0
      have HX := Lib.hid hx
      have c1 : ∀ o, (w.alloc o).cell? ⟨b, off + i, none⟩ = some (.int .i64 (x : Int)) := fun o => ((BA.out o).cell (block_lt_of_cell c0)).trans c0
      clear hx
      have gp : decide (((i + 1 : Nat) : Int) > 0) = true := decide_eq_true (by omega)
      have hin : (i : Int) < (n : Int) := by omega
      rcases Nat.eq_zero_or_pos x with hx0 | hx0
      · subst hx0
        go_wp2_with fail
        go_roundg i
        case measure => have := R.out.1; omega
        case rel =>
          refine ⟨i, by omega, rfl, by go_num, fun j hj => ?_, rfl⟩
          by_cases q : j = i
          · rw [q]; exact HX.out.symm
          · exact R.out.2 j (by omega)
      · have gx : ((x : Int) == 0) = false := by rw [beq_eq_false_iff_ne]; omega
        have EQ : Hid (d.take (i + 1) = dg (vl d)) := Lib.hid (cut_dg HD.out (i + 1) (by rw [← HN.out]; exact hk) R.out.2 (Or.inr (by rw [Nat.add_sub_cancel, ← HX.out]; omega)))
        go_wp2_with fail
        refine bodyPost_ret (results_cell_row rfl _ _ w.heap.size 40 #[_] (0, 0) _ rfl (heap_alloc_new _ _) Tryd.underlying40 rfl size_long) rfl ?_
        refine ⟨i + 1, vc, rfl, ?_, BA.out _⟩
        have q := takeR V.out (i + 1) (by rw [← HN.out]; exact hk)
        rw [EQ.out] at q
        exact q.below (BA.out _)
theorem cut_any (v : Value) (d : List Nat) (w : World) (hv : Row kI w v d) (hd : Dgs d) :
    Calls Tryd.prog 28 #[v] w fun e w' => ∃ a n c, e = .returned (.agg #[.slice a n c]) ∧ Row kI w' (.slice a n c) (dg (vl d)) ∧ Below w.heap.size w w' := by
  have hv' := hv
  obtain ⟨va, vc, rfl, -, -⟩ := hv.len
  exact (cut_at va _ vc d w hv' hd).mono fun e w' ⟨n, c, h1, h2, h3⟩ => ⟨va, n, c, h1, h2, h3⟩
/-- The memory that a slice lies in is not older. -/
def Fr (B : Nat) (a : Option Addr) : Prop := ∀ ad, a = some ad → B ≤ ad.block
theorem own_fr {B : Nat} {w : World} {a : Option Addr} {n c : Nat} {d : List Nat} (H : OwnR kI B w (.slice a n c) d) : Fr B a := by
  rintro ad rfl
  obtain ⟨_, ⟨hv, _⟩ | ⟨g, cap, cur, hv, hb, _⟩⟩ := H
  · simp at hv
  · simp only [Value.slice.injEq, Option.some.injEq] at hv
    rw [hv.1]; exact hb
theorem Fr.mono {B B' : Nat} {a : Option Addr} (h : Fr B a) (hB : B' ≤ B) : Fr B' a := fun ad e => Nat.le_trans hB (h ad e)
/-- A row stays, where another block is written. -/
theorem row_other {w : World} {g j : Nat} {a : Option Addr} {n c : Nat} {d : List Nat} (H : Row kI w (.slice a n c) d) (h : ∀ ad, a = some ad → ad.block ≠ g) (x : Value) : Row kI (w.setCell ⟨g, j, none⟩ x) (.slice a n c) d := by
  obtain ⟨a', cap, e, h1, h2, h0, hc⟩ := H
  simp only [Value.slice.injEq] at e
  obtain ⟨rfl, rfl, rfl⟩ := e
  refine ⟨a, c, rfl, h1, h2, h0, fun k hk => ?_⟩
  obtain ⟨b, off, ea, hcc⟩ := hc k hk
  refine ⟨b, off, ea, fun j' y hy => ?_⟩
  rw [← hcc j' y hy]
  exact World.cell?_of_block (Below.heap_setCell _ _ _ _ (show b ≠ g from h ⟨b, off, none⟩ ea))
set_option maxHeartbeats 4000000 in
set_option maxRecDepth 100000 in
theorem at_any (a : Option Addr) (n c : Nat) (d : List Nat) (i : Nat) (w : World) (hv : Row kI w (.slice a n c) d) :
    Calls Tryd.prog 49 #[.agg #[.slice a n c], .int .i64 (i : Int)] w fun e w' => e = .returned (.int .i64 ((d.getD i 0 : Nat) : Int)) ∧ Below w.heap.size w w' := by
  have V := Lib.hid hv
  have hn : n = d.length := by obtain ⟨_, _, e, _⟩ := hv.len; simp only [Value.slice.injEq] at e; exact e.2.1
  have HN := Lib.hid hn
  have BA : Hid (∀ o, Below w.heap.size w (w.alloc o)) := Lib.hid fun o => (Below.refl _ w).alloc (Nat.le_refl _) o
  obtain ⟨x, hx⟩ : ∃ x, x = d.getD i 0 := ⟨_, rfl⟩
  rw [← hx]
  by_cases h : i < n
  · obtain ⟨b, off, rfl, c0⟩ := Row.one hv i (by rw [← hn]; exact h)
    rw [← hx] at c0
    have c1 : ∀ o, (w.alloc o).cell? ⟨b, off + i, none⟩ = some (.int .i64 (x : Int)) := fun o => ((BA.out o).cell (block_lt_of_cell c0)).trans c0
    have hin : (i : Int) < (n : Int) := by omega
    clear hx hn hv
    go_enter Tryd.func49, Tryd.ntmps49
    go_wp2_with fail
    go_ret
    exact ⟨rfl, BA.out _⟩
  · have x0 : x = 0 := by rw [hx, List.getD_eq_getElem?_getD, List.getElem?_eq_none (by rw [← hn]; omega)]; rfl
    subst x0
    have hin : ¬ (i : Int) < (n : Int) := by omega
    clear hx hn hv
    go_enter Tryd.func49, Tryd.ntmps49
    go_wp2_with fail
    go_ret
    exact ⟨rfl, BA.out _⟩
set_option maxHeartbeats 4000000 in
set_option maxRecDepth 100000 in
theorem long_fr (m : Nat) (w : World) (hm : m ≤ 9223372036854775807) :
    Calls Tryd.prog 12 #[.int .i64 (m : Int)] w fun e w' => ∃ a n c, e = .returned (.agg #[.slice a n c]) ∧ Row kI w' (.slice a n c) (dg m) ∧ Fr w.heap.size a ∧ Below w.heap.size w w' := by
  have BA : Hid (∀ o, Below w.heap.size w (w.alloc o)) := Lib.hid fun o => (Below.refl _ w).alloc (Nat.le_refl _) o
  have HL : Hid ((dg m).length ≤ 19) := Lib.hid (dg_len_lt (by omega))
  have HM := Lib.hid hm
  clear hm
  go_enter Tryd.func12, Tryd.ntmps12
  go_wp2_with fail
  go_loopg [0, 3] m (fun g sv sd wr => ∃ (k : Nat) (d : List Nat) (a : Option Addr) (n c : Nat), g = k ∧ sv = .int .i64 k ∧ sd = .slice a n c ∧ dg m = d ++ dg k ∧ k ≤ m ∧ OwnR kI (w.heap.size + 1) wr (.slice a n c) d ∧ Below (w.heap.size + 1) (w.alloc (.cells #[.slice none 0 0] 40)) wr)
  case atStart => exact ⟨m, [], none, 0, 0, rfl, rfl, rfl, rfl, Nat.le_refl _, OwnR.nil _ _ _, Below.refl _ _⟩
  case round =>
    obtain ⟨k, d, a, n, c, hg, rfl, rfl, he, hk, ho, hb⟩ := hrel
    have R : Hid (gk = k ∧ dg m = d ++ dg k ∧ OwnR kI (w.heap.size + 1) wr (.slice a n c) d ∧ Below (w.heap.size + 1) (w.alloc (.cells #[.slice none 0 0] 40)) wr) := Lib.hid ⟨hg, he, ho, hb⟩
    clear hg he ho hb
    rcases Nat.eq_zero_or_pos k with h0 | h0
    · subst h0
      have H0 : Hid (wr.heap[w.heap.size]? = some (.cells #[.slice none 0 0] 40 (0, 0))) := Lib.hid ((R.out.2.2.2.block _ (Nat.lt_succ_self _)).trans (heap_alloc_new _ _))
      have t0 := cell1 H0.out
      have f0 := frz H0.out 0
      go_wp2_with fail
      refine bodyPost_ret (results_cell_row rfl _ _ w.heap.size 40 #[_] (0, 0) _ rfl (set1 H0.out _) Tryd.underlying40 rfl size_long) rfl ?_
      have ED : dg m = d := by rw [R.out.2.1, dg_zero, List.append_nil]
      have B1 : Below w.heap.size w wr := (BA.out _).trans (R.out.2.2.2.mono (Nat.le_succ _))
      have B2 : Below w.heap.size w (wr.setCell ⟨w.heap.size, 0, none⟩ (.slice a n c)) := B1.setCell (Nat.le_refl _) _
      refine ⟨a, n, c, rfl, ?_, (own_fr R.out.2.2.1).mono (Nat.le_succ _), B2⟩
      rw [ED]
      exact (R.out.2.2.1.kept (kept_set (F := fun y => y = w.heap.size) _ _ _ rfl) (fun j hj => by have := (R.out.2.2.1.lt j hj).1; show ¬ j = w.heap.size; omega)).row okI
    · obtain ⟨r, hr⟩ : ∃ r, r = k % 10 := ⟨_, rfl⟩
      obtain ⟨q, hq⟩ : ∃ q, q = k / 10 := ⟨_, rfl⟩
      have e1 : (k : Int).tmod 10 = (r : Int) := by rw [hr, Int.tmod_eq_emod_of_nonneg (by omega)]; omega
      have e2 : (k : Int).tdiv 10 = (q : Int) := by rw [hq, Int.tdiv_eq_ediv_of_nonneg (by omega)]; omega
      have Q : Hid (r = k % 10 ∧ q = k / 10) := Lib.hid ⟨hr, hq⟩
      have gp : decide ((k : Int) > 0) = true := decide_eq_true (by omega)
      clear hr hq
      have WZ : Hid (w.heap.size + 1 ≤ wr.heap.size) := Lib.hid (by have := R.out.2.2.2.size; rw [World.size_alloc] at this; exact this)
      have LN : Hid ((d.length + 1) * kI.b ≤ 140737488355328) := Lib.hid (by
        have q := HL.out
        rw [R.out.2.1, List.length_append] at q
        show (d.length + 1) * 8 ≤ _
        omega)
      go_wp2_with (at_builtin; refine app_rowB okI (gg := wr.heap.size) rfl _ _ rfl rfl R.out.2.2.1 WZ.out r (by simp) rfl rfl LN.out ?_; intro v' w' h1 h2)
      obtain ⟨a2, c2, rfl⟩ := h1.slice
      have Z : Hid (OwnR kI (w.heap.size + 1) w' (.slice a2 (d ++ [r]).length c2) (d ++ [r]) ∧ Below (w.heap.size + 1) (w.alloc (.cells #[.slice none 0 0] 40)) w') := Lib.hid ⟨h1, R.out.2.2.2.trans (grown_belowR h2 R.out.2.2.1 WZ.out)⟩
      clear h1 h2
      go_wp2_with fail
      go_roundg q
      case measure => have := R.out.1; have := Q.out.2; omega
      case rel => exact ⟨q, d ++ [r], a2, _, c2, rfl, by first | rfl | (congr 1; have := HM.out; have := Q.out.2; unfold wrap64; omega), rfl, by rw [R.out.2.1, dg_pos h0, ← Q.out.1, ← Q.out.2]; simp, by have := Q.out.2; omega, Z.out.1, Z.out.2⟩
theorem long_any (m : Nat) (w : World) (hm : m ≤ 9223372036854775807) :
    Calls Tryd.prog 12 #[.int .i64 (m : Int)] w fun e w' => ∃ a n c, e = .returned (.agg #[.slice a n c]) ∧ Row kI w' (.slice a n c) (dg m) ∧ Below w.heap.size w w' :=
  (long_fr m w hm).mono fun _ _ ⟨a, n, c, h1, h2, _, h4⟩ => ⟨a, n, c, h1, h2, h4⟩
end Lg
end Go.Proofs.YtjegjpdeclgegaaDoor
