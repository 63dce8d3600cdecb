/-
  The document's Long: by.
-/
import Derived.Test.YtjegjpdeclgegaaDoorLgE
import Derived.Laws.AppendOwnNone
namespace Go.Proofs.YtjegjpdeclgegaaDoor
open Go.RowKit Go.Lib
open Go.Sort (grow)
namespace Lg
theorem app_rowsL {α : Type} {K : Kd α} (ok : K.Ok) {ops : Array Oper} {rest : List Oper} {o : Oper} {a : Act} {Q : Exit → Act → World → Prop} (hgd : o.guard = none) (s x : Operand)
    (ho : o.op = .call { callee := .builtin .append, args := #[s, x], argTypes := #[K.s, K.s] })
    {B : Nat} {w : World} {v u : Value} {l m : List α} (hs : a.eval s = v) (hown : OwnR K B w v l) (hB : B ≤ w.heap.size) (hx : a.eval x = u) (hu : Row K w u m) (hl : (l.length + m.length) * K.b ≤ 140737488355328)
    (h : ∀ v' w', OwnR K B w' v' (l ++ m) → w.grownBy w' v.ownBlock → wpList Tryd.prog ops Q rest (a.put o.dst v') w') :
    wpList Tryd.prog ops Q (o :: rest) a w := by
  obtain ⟨zv, hinf, hzc⟩ := ok.inf
  obtain ⟨i0, hi, hz0, hz1, hz2⟩ := info_parts hinf
  have hb := ok.by0
  obtain ⟨ad, cap, rfl, hlc, hcm, hn, hc⟩ := hu
  cases ad with
  | none =>
    obtain rfl := hn rfl
    obtain rfl : m = [] := by simpa using hlc
    refine wpList_append_own_none hgd s x K.s ho B K.t i0 K.k ok.und hi v l.length (cellsR K l) hs hown hx ?_
    exact h v w (by simpa using hown) ⟨rfl, rfl, rfl, Nat.le_refl _, fun _ _ _ => rfl⟩
  | some ad =>
    refine wpList_append_own_at w hgd s x K.s ho B K.t i0 _ K.k K.b ok.und hi hz0 hz1 hz2 hzc ok.pos v l.length (cellsR K l) hs hown ad m.length cap (cellsR K m) hx (by rw [cellsR_length ok]) ?_ (cellsR_one ok m) (by have := Nat.le_mul_of_pos_right (l.length + m.length) hb.1; unfold maxLen; omega) hl hB ?_
    · intro j y hj
      have hjl : j < m.length * K.k := by
        rcases Nat.lt_or_ge j (m.length * K.k) with q | q
        · exact q
        · rw [List.getElem?_eq_none (by rw [cellsR_length ok]; exact q)] at hj; simp at hj
      have hkp := ok.pos
      have hq : j / K.k < m.length := Nat.div_lt_of_lt_mul (by rw [Nat.mul_comm]; exact hjl)
      have hr : j % K.k < K.k := Nat.mod_lt _ hkp
      have e : j = j / K.k * K.k + j % K.k := by rw [Nat.mul_comm]; exact (Nat.div_add_mod j K.k).symm
      obtain ⟨b, off, ea, hcc⟩ := hc (j / K.k) hq
      simp only [Option.some.injEq] at ea
      subst ea
      rw [add_plain]
      rw [e, cellsR_at ok m _ hq _ hr] at hj
      have := hcc _ _ hj
      rw [e, ← Nat.add_assoc]
      exact this
    · intro v' w' h1 h2 _ _
      refine h v' w' ?_ h2
      show w'.ownsRow _ _ _ _ _ _
      rw [cellsR_app, List.length_append]; exact h1
theorem results_two {fn : Func} {p u : Tmp} {ty : TypeId} (h : fn.results = #[.cell p ty, .cell u ty]) (tmps : Array Value) (w : World) (ad ad' : Addr) (x x' : Value)
    (hp : tmps.getD p undef = .pointer (some ad)) (hl : (loadVar ty ad).run Tryd.prog w = .ok x w) (hp2 : tmps.getD u undef = .pointer (some ad')) (hl2 : (loadVar ty ad').run Tryd.prog w = .ok x' w) :
    (results fn tmps).run Tryd.prog w = .ok (.tuple #[x, x']) w := by
  have hp' : tmps[p]?.getD undef = .pointer (some ad) := by simpa using hp
  have hp2' : tmps[u]?.getD undef = .pointer (some ad') := by simpa using hp2
  simp [results, h, hp', hp2', asAddr, hl, hl2, Result.andThen]
theorem load_long {w : World} {g : Nat} {s : Value} (h : w.heap[g]? = some (.cells #[s] 40 (0, 0))) : (loadVar 40 ⟨g, 0, none⟩).run Tryd.prog w = .ok (.agg #[s]) w :=
  run_loadVar_row w g _ _ _ _ _ h Tryd.underlying40 rfl size_long
/-- Two results' cells and the box of the rest. -/
def Bxs (w : World) (g4 g5 g7 : Nat) (s7 : Value) : Prop := w.heap[g4]? = some (.cells #[.slice none 0 0] 40 (0, 0)) ∧ w.heap[g5]? = some (.cells #[.slice none 0 0] 40 (0, 0)) ∧ w.heap[g7]? = some (.cells #[s7] 40 (0, 0)) ∧ g4 ≠ g5 ∧ g7 ≠ g4 ∧ g7 ≠ g5
theorem set_heap {w : World} {g g' : Nat} {o : Option Obj} (h : w.heap[g]? = o) (x : Value) (hn : g ≠ g') : (w.setCell ⟨g', 0, none⟩ x).heap[g]? = o := by rw [Below.heap_setCell _ _ _ _ hn]; exact h
theorem boxes {w : World} {g4 g5 g7 : Nat} {s7 : Value} (H : Bxs w g4 g5 g7 s7) (x y : Value) :
    w.cell? ⟨g7, 0, none⟩ = some s7 ∧ w.cell? ⟨g4, 0, none⟩ = some (.slice none 0 0) ∧ w.frozen? ⟨g4, 0, none⟩ = false ∧ (w.setCell ⟨g4, 0, none⟩ x).cell? ⟨g5, 0, none⟩ = some (.slice none 0 0) ∧ (w.setCell ⟨g4, 0, none⟩ x).frozen? ⟨g5, 0, none⟩ = false ∧ w.cell? ⟨g5, 0, none⟩ = some (.slice none 0 0) ∧ w.frozen? ⟨g5, 0, none⟩ = false ∧ (w.setCell ⟨g5, 0, none⟩ y).cell? ⟨g4, 0, none⟩ = some (.slice none 0 0) ∧ (w.setCell ⟨g5, 0, none⟩ y).frozen? ⟨g4, 0, none⟩ = false ∧ (w.setCell ⟨g4, 0, none⟩ x).cell? ⟨g7, 0, none⟩ = some s7 := by
  obtain ⟨h4, h5, h7, n1, n2, n3⟩ := H
  exact ⟨cell1 h7, cell1 h4, frz h4 0, cell1 (set_heap h5 x (Ne.symm n1)), frz (set_heap h5 x (Ne.symm n1)) 0, cell1 h5, frz h5 0, cell1 (set_heap h4 y n1), frz (set_heap h4 y n1) 0, cell1 (set_heap h7 x n2)⟩
theorem set_self {d : List Nat} {i : Nat} (hi : i < d.length) (h : d.getD i 0 = 0) : d.set i 0 = d := by
  apply List.ext_getElem
  · simp
  · intro k h1 h2
    rw [List.getElem_set]
    split
    · rename_i e
      subst e
      rw [List.getD_eq_getElem?_getD, List.getElem?_eq_getElem hi] at h
      exact h.symm
    · rfl
theorem drop_set {d : List Nat} (i y : Nat) : (d.set i y).drop (i + 1) = d.drop (i + 1) := by
  rw [List.drop_set, if_pos (by omega)]
set_option maxHeartbeats 16000000 in
set_option maxRecDepth 100000 in
theorem by_any (a a' : Option Addr) (n n' c c' : Nat) (p q : Nat) (w : World) (hv : Row kI w (.slice a n c) (dg p)) (hu : Row kI w (.slice a' n' c') (dg q)) (hn : n ≤ 1000) (hn' : n' ≤ 999) (hq : 0 < q) :
    Calls Tryd.prog 15 #[.agg #[.slice a n c], .agg #[.slice a' n' c']] w fun e w' => ∃ a n c a' n' c', e = .returned (.tuple #[.agg #[.slice a n c], .agg #[.slice a' n' c']]) ∧ Row kI w' (.slice a n c) (dg (p / q)) ∧ Row kI w' (.slice a' n' c') (dg (p % q)) ∧ Below w.heap.size w w' := by
  have V := Lib.hid hv
  have U := Lib.hid hu
  have HN : Hid (n = (dg p).length) := Lib.hid (by obtain ⟨_, _, e, _⟩ := hv.len; simp only [Value.slice.injEq] at e; exact e.2.1)
  have HN' : Hid (n' = (dg q).length) := Lib.hid (by obtain ⟨_, _, e, _⟩ := hu.len; simp only [Value.slice.injEq] at e; exact e.2.1)
  obtain ⟨A, hA⟩ : ∃ A, A = dg p := ⟨_, rfl⟩
  obtain ⟨B, hB⟩ : ∃ B, B = dg q := ⟨_, rfl⟩
  rw [← hA] at V HN
  rw [← hB] at U HN'
  have DD : Hid (Dgs A ∧ Dgs B ∧ vl A = p ∧ vl B = q ∧ A = dg p ∧ B = dg q) := Lib.hid (by rw [hA, hB]; exact ⟨dgs_dg _, dgs_dg _, vl_dg _, vl_dg _, rfl, rfl⟩)
  have HQ := Lib.hid hq
  have UQ := Lib.hid hu
  obtain ⟨W4, hW4⟩ : ∃ W, W = (((w.alloc (.cells #[.slice a n c] 40)).alloc (.cells #[.slice a' n' c'] 40)).alloc (.cells #[.slice none 0 0] 40)).alloc (.cells #[.slice none 0 0] 40) := ⟨_, rfl⟩
  have F4 : Hid (W4.heap.size = w.heap.size + 4 ∧ Below w.heap.size w W4 ∧ W4.heap[w.heap.size]? = some (.cells #[.slice a n c] 40 (0, 0)) ∧ W4.heap[w.heap.size + 1]? = some (.cells #[.slice a' n' c'] 40 (0, 0)) ∧ W4.heap[w.heap.size + 1 + 1]? = some (.cells #[.slice none 0 0] 40 (0, 0)) ∧ W4.heap[w.heap.size + 1 + 1 + 1]? = some (.cells #[.slice none 0 0] 40 (0, 0))) := Lib.hid (by
    subst hW4
    refine ⟨by simp, ((((Below.refl _ w).alloc (Nat.le_refl _) _).alloc (by simp) _).alloc (by simp <;> omega) _).alloc (by simp <;> omega) _, ?_, ?_, ?_, ?_⟩
    · rw [Below.heap_alloc _ _ _ (by simp <;> omega), Below.heap_alloc _ _ _ (by simp <;> omega), Below.heap_alloc _ _ _ (by simp), heap_alloc_new]
    · rw [Below.heap_alloc _ _ _ (by simp <;> omega), Below.heap_alloc _ _ _ (by simp)]
      have q := heap_alloc_new (w.alloc (.cells #[.slice a n c] 40)) (.cells #[.slice a' n' c'] 40)
      simpa using q
    · rw [Below.heap_alloc _ _ _ (by simp)]
      have q := heap_alloc_new ((w.alloc (.cells #[.slice a n c] 40)).alloc (.cells #[.slice a' n' c'] 40)) (.cells #[.slice none 0 0] 40)
      simpa using q
    · have q := heap_alloc_new (((w.alloc (.cells #[.slice a n c] 40)).alloc (.cells #[.slice a' n' c'] 40)).alloc (.cells #[.slice none 0 0] 40)) (.cells #[.slice none 0 0] 40)
      simpa using q)
  have EW := Lib.hid hW4
  obtain ⟨G, hG⟩ : ∃ G, G = w.heap.size + 1 + 1 + 1 + 1 := ⟨_, rfl⟩
  have GE := Lib.hid hG
  clear hA hB hv hu hq hW4 hG
  go_enter Tryd.func15, Tryd.ntmps15
  go_wp2_with (refine make_int _ rfl _ _ rfl _ _ n rfl rfl (by first | rfl | omega | (unfold wrap64; omega)) (by first | rfl | omega | (unfold wrap64; omega)) (by omega) ?_)
  rw [← EW.out]
  clear EW
  intro w5 hO5 hB5
  have O5 : Hid (OwnR kI (w.heap.size + 4) w5 (.slice (some ⟨G, 0, none⟩) n n) (List.replicate n 0) ∧ Below (w.heap.size + 4) W4 w5 ∧ G < w5.heap.size) := Lib.hid (by
    have e : G = w.heap.size + 4 := GE.out
    rw [e]
    refine ⟨hO5, hB5, ?_⟩
    exact (hO5.lt _ rfl).2)
  rw [← GE.out]
  obtain ⟨g7, hg7⟩ : ∃ g, g = w5.heap.size := ⟨_, rfl⟩
  obtain ⟨W6, hW6⟩ : ∃ W, W = w5.alloc (.cells #[.slice none 0 0] 40) := ⟨_, rfl⟩
  have F6 : Hid (W6.heap[g7]? = some (.cells #[.slice none 0 0] 40 (0, 0)) ∧ OwnR kI (w.heap.size + 4) W6 (.slice (some ⟨G, 0, none⟩) n n) (List.replicate n 0) ∧ Below (w.heap.size + 4) W4 W6 ∧ G < g7) := Lib.hid (by
    have q : Below w5.heap.size w5 W6 := by rw [hW6]; exact (Below.refl _ w5).alloc (Nat.le_refl _) _
    have q2 := O5.out.2.1.size
    rw [F4.out.1] at q2
    exact ⟨by rw [hW6, hg7]; exact heap_alloc_new _ _, O5.out.1.below q, O5.out.2.1.trans (q.mono q2), by rw [hg7]; exact O5.out.2.2⟩)
  have u0 := cell1 ((O5.out.2.1.block _ (by omega)).trans F4.out.2.2.1)
  have u1 : (w5.alloc (.cells #[.slice none 0 0] 40)).cell? ⟨w.heap.size, 0, none⟩ = some (.slice a n c) := cell1 (by rw [← hW6]; exact (F6.out.2.2.1.block _ (by omega)).trans F4.out.2.2.1)
  have EW := Lib.hid (And.intro hW6 hg7)
  clear hO5 hB5 hW6 hg7
  go_wp2_with fail
  rw [← EW.out.1, ← EW.out.2]
  clear EW u0 u1 O5
  go_loopg [8] n (fun g si wr => ∃ (k r : Nat) (qd : List Nat) (ra : Option Addr) (rn rc : Nat), g = k ∧ k ≤ n ∧ si = .int .i64 ((k : Int) - 1) ∧ qd.length = n ∧ Dgs qd ∧ r < q ∧ vl (A.drop k) = vl (qd.drop k) * q + r ∧ (∀ j, j < k → qd.getD j 0 = 0) ∧ wr.heap[g7]? = some (.cells #[.slice ra rn rc] 40 (0, 0)) ∧ Row kI wr (.slice ra rn rc) (dg r) ∧ Fr (G + 1) ra ∧ OwnR kI (w.heap.size + 4) wr (.slice (some ⟨G, 0, none⟩) n n) qd ∧ Below (w.heap.size + 4) W4 wr)
  case atStart => exact ⟨n, 0, List.replicate n 0, none, 0, 0, rfl, Nat.le_refl _, by first | rfl | (congr 1; unfold wrap64; omega), List.length_replicate, (fun x hx => by rw [List.eq_of_mem_replicate hx]; decide), HQ.out, (by rw [List.drop_eq_nil_of_le (by rw [← HN.out]; exact Nat.le_refl _), List.drop_eq_nil_of_le (by rw [List.length_replicate]; exact Nat.le_refl _)]; simp [vl]), (fun j _ => by rw [List.getD_eq_getElem?_getD, List.getElem?_replicate]; split <;> rfl), F6.out.1, by rw [dg_zero]; exact Row.nil _, (fun ad e => by cases e), F6.out.2.1, F6.out.2.2.1⟩
  case round =>
    obtain ⟨k, r, qd, ra, rn, rc, hg, hk, rfl, hql, hqd, hr, hval, hz, hh, hrow, hfr, ho, hb⟩ := hrel
    have R : Hid (gk = k ∧ qd.length = n ∧ Dgs qd ∧ r < q ∧ vl (A.drop k) = vl (qd.drop k) * q + r ∧ (∀ j, j < k → qd.getD j 0 = 0)) := Lib.hid ⟨hg, hql, hqd, hr, hval, hz⟩
    have M : Hid (wr.heap[g7]? = some (.cells #[.slice ra rn rc] 40 (0, 0)) ∧ Row kI wr (.slice ra rn rc) (dg r) ∧ Fr (G + 1) ra ∧ OwnR kI (w.heap.size + 4) wr (.slice (some ⟨G, 0, none⟩) n n) qd ∧ Below (w.heap.size + 4) W4 wr) := Lib.hid ⟨hh, hrow, hfr, ho, hb⟩
    clear hg hql hqd hr hval hz hh hrow hfr ho hb
    have BW : Hid (Below w.heap.size w wr) := Lib.hid (F4.out.2.1.trans (M.out.2.2.2.2.mono (by omega)))
    have GL : Hid (g7 < wr.heap.size ∧ w.heap.size + 4 ≤ wr.heap.size ∧ G + 1 ≤ g7) := Lib.hid ⟨block_lt_of_cell (cell1 M.out.1), by have q := M.out.2.2.2.2.size; rw [F4.out.1] at q; exact q, F6.out.2.2.2⟩
    rcases Nat.eq_zero_or_pos k with h0 | h0
    · subst h0
      have gz : decide (((0 : Nat) : Int) - 1 ≥ 0) = false := by decide
      have EQ : Hid (vl qd = p / q ∧ r = p % q) := Lib.hid (by
        have q1 := R.out.2.2.2.2.1
        rw [List.drop_zero, List.drop_zero, DD.out.2.2.1] at q1
        have q2 := R.out.2.2.2.1
        constructor
        · rw [q1, Nat.add_comm, Nat.add_mul_div_right _ _ HQ.out, Nat.div_eq_of_lt q2]; omega
        · rw [q1, Nat.add_comm, Nat.add_mul_mod_self_right, Nat.mod_eq_of_lt q2])
      have CT : Hid (∀ W, Below wr.heap.size wr W → Calls Tryd.prog 28 #[.slice (some ⟨G, 0, none⟩) n n] W fun e w' => ∃ n c, e = .returned (.agg #[.slice (some ⟨G, 0, none⟩) n c]) ∧ Row kI w' (.slice (some ⟨G, 0, none⟩) n c) (dg (p / q)) ∧ Below W.heap.size W w') := Lib.hid fun W h => by
        have q := cut_at (some ⟨G, 0, none⟩) n n qd W ((M.out.2.2.2.1.row okI).below h) R.out.2.2.1
        rw [EQ.out.1] at q; exact q
      have q7 : wr.drew.cell? ⟨g7, 0, none⟩ = some (.slice ra rn rc) := cell1 M.out.1
      have HH : Hid (∀ W, Below wr.heap.size wr W → Bxs W (w.heap.size + 1 + 1) (w.heap.size + 1 + 1 + 1) g7 (.slice ra rn rc)) := Lib.hid fun W h => ⟨(h.block _ (by have := GL.out; omega)).trans ((M.out.2.2.2.2.block _ (by omega)).trans F4.out.2.2.2.2.1), (h.block _ (by have := GL.out; omega)).trans ((M.out.2.2.2.2.block _ (by omega)).trans F4.out.2.2.2.2.2), (h.block _ GL.out.1).trans M.out.1, by omega, by have := GL.out.2.2; have := GE.out; omega, by have := GL.out.2.2; have := GE.out; omega⟩
      go_wp2_with fail
      go_region_with (go_at_call 28; refine (CT.out _ ((Below.refl _ wr).drew)).mono ?_; rintro e w6 ⟨n6, c6, rfl, hr6, hb6⟩; have S6 : Hid (Below wr.heap.size wr w6 ∧ Row kI w6 (.slice (some ⟨G, 0, none⟩) n6 c6) (dg (p / q))) := Lib.hid ⟨((Below.refl _ wr).drew).trans hb6, hr6⟩; obtain ⟨t7, t4, f4, t5, f5, t50, f50, t40, f40, t70⟩ := boxes (HH.out _ S6.out.1) (.slice (some ⟨G, 0, none⟩) n6 c6) (.slice ra rn rc); clear hr6 hb6)
      all_goals
        go_wp2_with fail
        have HB := HH.out _ S6.out.1
        have k4 := set_heap (set1 HB.1 (.slice (some ⟨G, 0, none⟩) n6 c6)) (.slice ra rn rc) HB.2.2.2.1
        have k5 := set1 (set_heap HB.2.1 (.slice (some ⟨G, 0, none⟩) n6 c6) (Ne.symm HB.2.2.2.1)) (.slice ra rn rc)
        refine bodyPost_ret (results_two rfl _ _ ⟨w.heap.size + 1 + 1, 0, none⟩ ⟨w.heap.size + 1 + 1 + 1, 0, none⟩ _ _ rfl (load_long k4) rfl (load_long k5)) rfl ?_
        have BL : Below w.heap.size w w6 := BW.out.trans (S6.out.1.mono BW.out.size)
        have BM : Below w.heap.size w ((w6.setCell ⟨w.heap.size + 1 + 1, 0, none⟩ (.slice (some ⟨G, 0, none⟩) n6 c6)).setCell ⟨w.heap.size + 1 + 1 + 1, 0, none⟩ (.slice ra rn rc)) := (BL.setCell (p := ⟨w.heap.size + 1 + 1, 0, none⟩) (show w.heap.size ≤ w.heap.size + 1 + 1 by omega) _).setCell (p := ⟨w.heap.size + 1 + 1 + 1, 0, none⟩) (show w.heap.size ≤ w.heap.size + 1 + 1 + 1 by omega) _
        refine ⟨some ⟨G, 0, none⟩, n6, c6, ra, rn, rc, rfl, ?_, ?_, BM⟩
        · exact row_set (set_heap HB.2.1 _ (Ne.symm HB.2.2.2.1)) (row_set HB.1 S6.out.2 _) _
        · rw [← EQ.out.2]
          exact row_set (set_heap HB.2.1 _ (Ne.symm HB.2.2.2.1)) (row_set HB.1 (M.out.2.1.below S6.out.1) _) _
    · obtain ⟨i, rfl⟩ : ∃ i, k = i + 1 := ⟨k - 1, by omega⟩
      have ei : (((i + 1 : Nat) : Int) - 1) = (i : Int) := by omega
      rw [ei]
      clear ei
      have gi : decide ((i : Int) ≥ 0) = true := decide_eq_true (by omega)
      have hin : (i : Int) < (n : Int) := by omega
      obtain ⟨ai, hai⟩ : ∃ ai, ai = A.getD i 0 := ⟨_, rfl⟩
      have ha9 : ai < 10 := by rw [hai]; exact getD_lt DD.out.1 i
      have AI := Lib.hid hai
      obtain ⟨b, off, rfl, c0⟩ := Row.one (V.out.below BW.out) i (by rw [← HN.out]; omega)
      rw [← hai] at c0
      clear hai
      have p0 := cell1 ((M.out.2.2.2.2.block _ (by omega)).trans F4.out.2.2.1)
      go_wp2_with (at_builtin; refine app_rowB okI (B := wr.heap.size) (v := .slice none 0 0) (xs := []) (gg := wr.heap.size) rfl _ _ rfl rfl (OwnR.nil _ _ _) (Nat.le_refl _) ai (by simp) rfl rfl (by decide) ?_)
      intro v1 w1 own1 grown1
      have B1 : Hid (Below wr.heap.size wr w1 ∧ OwnR kI wr.heap.size w1 v1 [ai]) := Lib.hid ⟨(Below.refl _ wr).grown grown1 (Nat.le_refl _) (fun j hj => by cases hj), own1⟩
      have p7 := cell1 ((B1.out.1.block _ GL.out.1).trans M.out.1)
      clear own1 grown1 c0 p0
      have RL : Hid (([ai].length + (dg r).length) * kI.b ≤ 140737488355328) := Lib.hid (by
        have q := dg_len_lt (n := r) (k := n') (by
          have q1 := vl_lt DD.out.2.1
          rw [DD.out.2.2.2.1, ← HN'.out] at q1
          have := R.out.2.2.2.1
          omega)
        show (1 + (dg r).length) * 8 ≤ _
        omega)
      go_wp2_with (at_builtin; refine app_rowsL okI (B := wr.heap.size) (w := w1) (v := v1) (u := .slice ra rn rc) (l := [ai]) (m := dg r) rfl _ _ rfl rfl B1.out.2 B1.out.1.size rfl (M.out.2.1.below B1.out.1) RL.out ?_)
      intro v2 w2 own2 grown2
      obtain ⟨a2, c2, rfl⟩ := own2.slice
      have S2 : Hid (Below wr.heap.size wr w2 ∧ OwnR kI wr.heap.size w2 (.slice a2 ([ai] ++ dg r).length c2) ([ai] ++ dg r)) := Lib.hid ⟨B1.out.1.trans (grown_belowR grown2 B1.out.2 B1.out.1.size), own2⟩
      clear own2 grown2 p7
      obtain ⟨r0, hr0⟩ : ∃ r0, r0 = ai + 10 * r := ⟨_, rfl⟩
      have VR : Hid (vl ([ai] ++ dg r) = r0) := Lib.hid (by rw [hr0]; show ai + 10 * vl (dg r) = _; rw [vl_dg])
      have CT := Lib.hid (cut_at a2 _ c2 ([ai] ++ dg r) w2 (S2.out.2.row okI) (dgs_app (dgs_one ha9) (dgs_dg r)))
      rw [VR.out] at CT
      have HR0 := Lib.hid hr0
      clear hr0
      go_wp2_with fail
      refine CT.out.mono ?_
      rintro e w3 ⟨n3, c3, rfl, hr3, hb3⟩
      have B3 : Hid (Below wr.heap.size wr w3) := Lib.hid (S2.out.1.trans (hb3.mono S2.out.1.size))
      have H3 : Hid (w3.heap[g7]? = some (.cells #[.slice ra rn rc] 40 (0, 0))) := Lib.hid ((B3.out.block _ GL.out.1).trans M.out.1)
      have t3 := cell1 H3.out
      have f3 := frz H3.out 0
      obtain ⟨W8, hW8⟩ : ∃ W, W = w3.setCell ⟨g7, 0, none⟩ (.slice a2 n3 c3) := ⟨_, rfl⟩
      have S8 : Hid (W8.heap[g7]? = some (.cells #[.slice a2 n3 c3] 40 (0, 0)) ∧ Row kI W8 (.slice a2 n3 c3) (dg r0) ∧ Fr (G + 1) a2 ∧ OwnR kI (w.heap.size + 4) W8 (.slice (some ⟨G, 0, none⟩) n n) qd ∧ Below (w.heap.size + 4) W4 W8) := Lib.hid (by
        rw [hW8]
        have q := (own_fr S2.out.2)
        refine ⟨set1 H3.out _, row_set H3.out hr3 _, q.mono (by have := GL.out; omega), ?_, ?_⟩
        · exact (M.out.2.2.2.1.below B3.out).kept (kept_set (F := fun y => y = g7) _ _ _ rfl) (fun j hj => by cases hj; show ¬ G = g7; have := GL.out.2.2; omega)
        · exact (M.out.2.2.2.2.trans (B3.out.mono GL.out.2.1)).setCell (p := ⟨g7, 0, none⟩) (show w.heap.size + 4 ≤ g7 by have := GL.out.2.2; have := GE.out; omega) _)
      clear hr3 hb3
      go_wp2_with fail
      rw [← hW8]
      clear hW8 t3 f3
      have R8 : Hid (r0 < 10 * q) := Lib.hid (by have := R.out.2.2.2.1; have := HR0.out; omega)
      clear B3 H3 CT VR S2 B1 RL
      go_loopg [] (r0 + 1) (fun g wr => ∃ (y r' : Nat) (ra' : Option Addr) (rn' rc' : Nat), g = r' + 1 ∧ r' + y * q = r0 ∧ wr.heap[g7]? = some (.cells #[.slice ra' rn' rc'] 40 (0, 0)) ∧ Row kI wr (.slice ra' rn' rc') (dg r') ∧ Fr (G + 1) ra' ∧ OwnR kI (w.heap.size + 4) wr (.slice (some ⟨G, 0, none⟩) n n) (qd.set i y) ∧ Below (w.heap.size + 4) W4 wr)
      case atStart => exact ⟨0, r0, a2, n3, c3, rfl, by omega, S8.out.1, S8.out.2.1, S8.out.2.2.1, by rw [set_self (by rw [R.out.2.1]; omega) (R.out.2.2.2.2.2 i (by omega))]; exact S8.out.2.2.2.1, S8.out.2.2.2.2⟩
      case round =>
        obtain ⟨y, r', ra', rn', rc', hg, hyr, hh, hrow, hfr, ho, hb⟩ := hrel
        have M2 : Hid (wr.heap[g7]? = some (.cells #[.slice ra' rn' rc'] 40 (0, 0)) ∧ Row kI wr (.slice ra' rn' rc') (dg r') ∧ Fr (G + 1) ra' ∧ OwnR kI (w.heap.size + 4) wr (.slice (some ⟨G, 0, none⟩) n n) (qd.set i y) ∧ Below (w.heap.size + 4) W4 wr) := Lib.hid ⟨hh, hrow, hfr, ho, hb⟩
        have Y2 : Hid (gk = r' + 1 ∧ r' + y * q = r0 ∧ y ≤ 9) := Lib.hid ⟨hg, hyr, by
          have q1 := R8.out
          rcases Nat.lt_or_ge y 10 with z | z
          · omega
          · have := Nat.mul_le_mul_right q z
            omega⟩
        clear hg hyr hh hrow hfr ho hb
        have BW2 : Hid (Below w.heap.size w wr) := Lib.hid (F4.out.2.1.trans (M2.out.2.2.2.2.mono (by omega)))
        have GL2 : Hid (g7 < wr.heap.size ∧ w.heap.size + 4 ≤ wr.heap.size) := Lib.hid ⟨block_lt_of_cell (cell1 M2.out.1), by have q := M2.out.2.2.2.2.size; rw [F4.out.1] at q; exact q⟩
        have p1 := cell1 ((M2.out.2.2.2.2.block _ (by omega)).trans F4.out.2.2.2.1)
        have p7 := cell1 M2.out.1
        have RN : Hid (rn' ≤ 1000) := Lib.hid (by
          obtain ⟨_, _, e, _⟩ := M2.out.2.1.len
          simp only [Value.slice.injEq] at e
          have q1 := vl_lt DD.out.2.1
          rw [DD.out.2.2.2.1, ← HN'.out] at q1
          have q2 := dg_len_lt (n := r') (k := n' + 1) (by rw [Nat.pow_succ]; have := Y2.out.2.1; have := R8.out; omega)
          rw [e.2.1]; omega)
        by_cases hlt : r' < q
        · have LS := Lib.hid (less_yes ra' a' rn' n' rc' c' r' q wr M2.out.2.1 (UQ.out.below BW2.out) RN.out hlt)
          have NX : Hid (vl (A.drop i) = vl ((qd.set i y).drop i) * q + r' ∧ r' < q) := Lib.hid ⟨by
            rw [vl_drop A i (by rw [← HN.out]; omega), ← AI.out, R.out.2.2.2.2.1, vl_drop (qd.set i y) i (by rw [List.length_set, R.out.2.1]; omega), drop_set, getD_set _ _ _ (by rw [R.out.2.1]; omega), if_pos rfl]
            have q1 := Y2.out.2.1
            have q2 := HR0.out
            have q3 : (y + 10 * vl (qd.drop (i + 1))) * q = y * q + 10 * (vl (qd.drop (i + 1)) * q) := by rw [Nat.add_mul, Nat.mul_assoc]
            rw [q3]
            omega, hlt⟩
          clear hlt
          go_wp2_with fail
          refine LS.out.mono ?_
          rintro e w4 ⟨rfl, hb4⟩
          have B4 := Lib.hid hb4
          clear hb4 p1 p7
          go_wp2_with fail
          go_roundg i
          case measure => have := R.out.1; omega
          case rel =>
            refine ⟨i, r', qd.set i y, ra', rn', rc', rfl, by omega, by first | rfl | (congr 1; unfold wrap64; omega), by rw [List.length_set]; exact R.out.2.1, dgs_set R.out.2.2.1 _ _ (by have := Y2.out.2.2; omega), NX.out.2, NX.out.1, ?_, (B4.out.block _ GL2.out.1).trans M2.out.1, M2.out.2.1.below B4.out, M2.out.2.2.1, M2.out.2.2.2.1.below B4.out, M2.out.2.2.2.2.trans (B4.out.mono GL2.out.2)⟩
            intro j hj
            rw [getD_set _ _ _ (by rw [R.out.2.1]; omega), if_neg (by omega)]
            exact R.out.2.2.2.2.2 j (by omega)
        · have LS := Lib.hid (less_no ra' a' rn' n' rc' c' r' q wr M2.out.2.1 (UQ.out.below BW2.out) RN.out hlt)
          go_wp2_with fail
          refine LS.out.mono ?_
          rintro e w4 ⟨rfl, hb4⟩
          have B4 := Lib.hid hb4
          have H4 : Hid (w4.heap[g7]? = some (.cells #[.slice ra' rn' rc'] 40 (0, 0))) := Lib.hid ((B4.out.block _ GL2.out.1).trans M2.out.1)
          have u7 := cell1 H4.out
          have u1 := cell1 ((B4.out.block _ (by have := GL2.out.2; omega)).trans ((M2.out.2.2.2.2.block _ (by omega)).trans F4.out.2.2.2.1))
          have MI := Lib.hid (minus_any ra' a' rn' n' rc' c' r' q w4 (M2.out.2.1.below B4.out) (UQ.out.below (BW2.out.trans (B4.out.mono BW2.out.size))) RN.out (by omega))
          clear hb4 p1 p7
          go_wp2_with fail
          refine MI.out.mono ?_
          rintro e w5' ⟨a5, n5, c5, rfl, hr5, hfr5, hb5⟩
          have B5 : Hid (Below wr.heap.size wr w5') := Lib.hid (B4.out.trans (hb5.mono B4.out.size))
          have H5 : Hid (w5'.heap[g7]? = some (.cells #[.slice ra' rn' rc'] 40 (0, 0))) := Lib.hid ((B5.out.block _ GL2.out.1).trans M2.out.1)
          have t5 := cell1 H5.out
          have f5 := frz H5.out 0
          obtain ⟨W9, hW9⟩ : ∃ W, W = w5'.setCell ⟨g7, 0, none⟩ (.slice a5 n5 c5) := ⟨_, rfl⟩
          have S9 : Hid (W9.heap[g7]? = some (.cells #[.slice a5 n5 c5] 40 (0, 0)) ∧ Row kI W9 (.slice a5 n5 c5) (dg (r' - q)) ∧ Fr (G + 1) a5 ∧ OwnR kI (w.heap.size + 4) W9 (.slice (some ⟨G, 0, none⟩) n n) (qd.set i y) ∧ Below (w.heap.size + 4) W4 W9) := Lib.hid (by
            rw [hW9]
            refine ⟨set1 H5.out _, row_set H5.out hr5 _, hfr5.mono (by have := GL.out; have := GL2.out; have := B4.out.size; omega), ?_, ?_⟩
            · exact (M2.out.2.2.2.1.below B5.out).kept (kept_set (F := fun y => y = g7) _ _ _ rfl) (fun j hj => by cases hj; show ¬ G = g7; have := GL.out.2.2; omega)
            · exact (M2.out.2.2.2.2.trans (B5.out.mono GL2.out.2)).setCell (p := ⟨g7, 0, none⟩) (show w.heap.size + 4 ≤ g7 by have := GL.out.2.2; have := GE.out; omega) _)
          clear hr5 hb5 hfr5 u7 u1
          have E9 := Lib.hid hW9
          clear hW9
          obtain ⟨cur, -, hBg, hG9, -⟩ := S9.out.2.2.2.1.parts
          have f9 := frozen_row hG9 i
          have c9 : W9.cell? ⟨G, i, none⟩ = some (.int .i64 (y : Int)) := by
            obtain ⟨b9, off9, e9, q9⟩ := Row.one (S9.out.2.2.2.1.row okI) i (by rw [List.length_set, R.out.2.1]; omega)
            simp only [Option.some.injEq, Addr.mk.injEq, and_true] at e9
            obtain ⟨rfl, rfl⟩ := e9
            rw [Nat.zero_add, getD_set _ _ _ (by rw [R.out.2.1]; omega), if_pos rfl] at q9; exact q9
          have ey : wrap64 ((y : Int) + 1) = (y : Int) + 1 := by have := Y2.out.2.2; unfold wrap64; omega
          have ST : Hid (OwnR kI (w.heap.size + 4) (W9.setCell ⟨G, i, none⟩ (.int .i64 ((y : Int) + 1))) (.slice (some ⟨G, 0, none⟩) n n) (qd.set i (y + 1)) ∧ Below (w.heap.size + 4) W4 (W9.setCell ⟨G, i, none⟩ (.int .i64 ((y : Int) + 1))) ∧ (W9.setCell ⟨G, i, none⟩ (.int .i64 ((y : Int) + 1))).heap[g7]? = some (.cells #[.slice a5 n5 c5] 40 (0, 0)) ∧ Row kI (W9.setCell ⟨G, i, none⟩ (.int .i64 ((y : Int) + 1))) (.slice a5 n5 c5) (dg (r' - q))) := Lib.hid ⟨by
            have q := S9.out.2.2.2.1.set okI i 0 (by rw [List.length_set, R.out.2.1]; omega) (by decide) (y + 1) (.int .i64 ((y : Int) + 1)) rfl
            have e : i * kI.k + 0 = i := by show i * 1 + 0 = i; omega
            rw [e, List.set_set] at q; exact q, S9.out.2.2.2.2.setCell (p := ⟨G, i, none⟩) hBg _, by rw [Below.heap_setCell _ _ _ _ (show g7 ≠ G by have := GL.out.2.2; omega)]; exact S9.out.1, row_other S9.out.2.1 (fun ad e => by have := S9.out.2.2.1 ad e; omega) _⟩
          rw [E9.out] at f9 c9
          clear hG9 hBg
          go_wp2_with fail
          rw [← E9.out]
          clear E9 t5 f5
          obtain ⟨WA, hWA⟩ : ∃ W, W = W9.setCell ⟨G, i, none⟩ (.int .i64 ((y : Int) + 1)) := ⟨_, rfl⟩
          rw [← hWA] at ST ⊢
          clear hWA f9 c9 ey
          go_wp2_with fail
          go_roundg (r' - q + 1)
          case measure => have := Y2.out.1; have := HQ.out; omega
          case rel => exact ⟨y + 1, r' - q, a5, n5, c5, rfl, by have := Y2.out.2.1; rw [Nat.add_mul]; omega, ST.out.2.2.1, ST.out.2.2.2, S9.out.2.2.1, ST.out.1, ST.out.2.1⟩
end Lg
end Go.Proofs.YtjegjpdeclgegaaDoor
