/-
  The document's space in memory: in, copied, free, Commit, Back, Taken, Held, Free.
-/
import Derived.Test.YtfdhccanacpanaaRfM
namespace Go.Proofs.Ytfdhccanacpanaa
open Go.RowKit
/-- The document's space d, of the states l. -/
structure Rs (B : Nat) (w : World) (d f : Nat) (vw vn : Value) (l : List UInt8) : Prop where
  self : w.heap[d]? = some (.cells #[.int .i64 ((f + l.length : Nat) : Int), .int .i64 f, vw, vn] 62 (0, 0))
  ow : OwnI B w vw (those [2, 3] f l)
  on : OwnI B w vn (those [1, 2] f l)
  len : l.length ≤ 4096
  fst : f ≤ 4096
  ok : Sts l
  b1 : B ≤ d
variable {B : Nat} {w w' : World} {d f : Nat} {vw vn : Value} {l l' : List UInt8}
theorem OwnI.ne_of {B : Nat} {w : World} {v : Value} {t : List Int} (h : OwnI B w v t) {k : Nat} {cs : Array Value} {ty : TypeId} {p : Nat × Nat} (hk : w.heap[k]? = some (.cells cs ty p)) (ht : ty ≠ 3) : ∀ j, v.ownBlock = some j → j ≠ k := fun j hj e => by
  obtain ⟨cur, hc⟩ := h.row hj
  subst e
  rw [hk] at hc
  simp only [Option.some.injEq, Obj.cells.injEq] at hc
  exact ht hc.2.1
theorem Rs.kept {F : Nat → Prop} (h : Rs B w d f vw vn l) (K : Kept F w w') (h1 : ¬ F d) (h2 : ∀ k, F k → ∀ cur, w.heap[k]? ≠ some (.cells cur 3 (0, 0))) : Rs B w' d f vw vn l :=
  ⟨by rw [K.block d (lt_of_heap h.self) h1]; exact h.self, h.ow.kept K (fun k hk hF => by obtain ⟨cur, hc⟩ := h.ow.row hk; exact h2 k hF cur hc), h.on.kept K (fun k hk hF => by obtain ⟨cur, hc⟩ := h.on.row hk; exact h2 k hF cur hc), h.len, h.fst, h.ok, h.b1⟩
theorem Rs.below (h : Rs B w d f vw vn l) (b : Below w.heap.size w w') : Rs B w' d f vw vn l := h.kept (Below.kept b (fun _ => False)) (fun h => h) (fun _ h => h.elim)
theorem Rs.mono {B' : Nat} (h : Rs B w d f vw vn l) (hB : B' ≤ B) : Rs B' w d f vw vn l := ⟨h.self, h.ow.mono hB, h.on.mono hB, h.len, h.fst, h.ok, Nat.le_trans hB h.b1⟩
theorem Rs.c (h : Rs B w d f vw vn l) (k : Nat) : w.cell? ⟨d, k, none⟩ = (#[.int .i64 ((f + l.length : Nat) : Int), .int .i64 f, vw, vn] : Array Value)[k]? := cell_of_row w d k _ _ _ h.self
theorem Rs.free (h : Rs B w d f vw vn l) (k : Nat) : w.frozen? ⟨d, k, none⟩ = false := frozen_of_row w d k _ _ h.self
theorem slice_of {B : Nat} {w : World} {v : Value} {t : List Int} (h : OwnI B w v t) : ∃ a n c, v = .slice a n c := by
  obtain ⟨a, c, e, _⟩ := h.len
  exact ⟨a, _, c, e⟩
theorem nowL (ss : List UInt8) (f : Nat) (l : List UInt8) (h : l.length ≤ 4096) : (those ss f l).length ≤ 4096 := by
  have := those_length ss f l; omega
theorem form_of {B : Nat} {w : World} {v : Value} {t : List Int} (h : OwnI B w v t) : ∃ a c, v = .slice a t.length c ∧ t.length ≤ c ∧ c ≤ 9223372036854775807 := h.len
set_option maxHeartbeats 1000000 in
theorem rin_any (v : Value) (t : List Int) (x : Int) (w : World) (hv : Ints w v t) :
    Calls Try.prog 37 #[v, .int .i64 x] w fun e w' => e = .returned (.bool (decide (x ∈ t))) ∧ w' = w := by
  obtain ⟨a, cap, rfl, hlc, hcm, hc⟩ := ints_none _ _ _ hv
  clear hv
  obtain ⟨n, hn⟩ : ∃ n, n = t.length := ⟨_, rfl⟩
  rw [← hn] at hlc ⊢
  have NN := Lib.hid hn
  have HC : Hid (∀ k, k < n → ∃ b off, a = some ⟨b, off, none⟩ ∧ w.cell? ⟨b, off + k, none⟩ = some (.int .i64 (t.getD k 0))) := Lib.hid (by rw [hn]; exact hc)
  clear hn hc
  go_enter Try.func37, Try.ntmps37
  go_wp2_with fail
  go_loopg [5] n (fun g si wr => ∃ (k : Nat), k ≤ n ∧ g = n - k ∧ si = .int .i64 k ∧ wr = w ∧ ∀ j, j < k → t.getD j 0 ≠ x)
  case atStart => exact ⟨0, Nat.zero_le _, rfl, rfl, rfl, fun j hj => by omega⟩
  case round =>
    obtain ⟨k, hk, hg, rfl, rfl, hp⟩ := hrel
    have G := Lib.hid hg
    have P := Lib.hid hp
    clear hg hp
    by_cases hlt : k < n
    · obtain ⟨b, off, rfl, p0⟩ := HC.out k hlt
      obtain ⟨y, hy⟩ : ∃ y, y = t.getD k 0 := ⟨_, rfl⟩
      rw [← hy] at p0
      have Y := Lib.hid hy
      clear hy
      have hlt' : (k : Int) < (n : Int) := by omega
      have hkt : Hid (k < t.length) := Lib.hid (by rw [← NN.out]; exact hlt)
      by_cases q : y = x
      · have g1 : (y == x) = true := by rw [q]; exact beq_self_eq_true _
        have Q := Lib.hid q
        clear q
        go_wp2_with fail
        go_ret
        refine ⟨congrArg (fun b => Ending.returned (.bool b)) (decide_eq_true ?_).symm, rfl⟩
        rw [← Q.out, Y.out, List.getD_eq_getElem?_getD, List.getElem?_eq_getElem hkt.out, Option.getD_some]
        exact List.getElem_mem _
      · have g1 : (y == x) = false := by rw [beq_eq_false_iff_ne]; exact q
        have Q := Lib.hid q
        clear q
        go_wp2_with fail
        go_roundg (n - (k + 1))
        case measure => have := G.out; omega
        case rel =>
          refine ⟨k + 1, by omega, rfl, by go_num, rfl, fun j hj => ?_⟩
          rcases Nat.lt_or_ge j k with q | q
          · exact P.out j q
          · obtain rfl : j = k := by omega
            rw [← Y.out]; exact Q.out
    · have hge : ¬ (k : Int) < (n : Int) := by omega
      have EK : Hid (k = t.length) := Lib.hid (by rw [← NN.out]; omega)
      go_wp2_with fail
      go_ret
      refine ⟨congrArg (fun b => Ending.returned (.bool b)) (decide_eq_false fun hx => ?_).symm, rfl⟩
      obtain ⟨i, hi, e⟩ := List.mem_iff_getElem.1 hx
      refine P.out i (by rw [EK.out]; exact hi) ?_
      rw [List.getD_eq_getElem?_getD, List.getElem?_eq_getElem hi, Option.getD_some]; exact e
set_option maxHeartbeats 1000000 in
theorem copied_any (v : Value) (t : List Int) (w : World) (hv : Ints w v t) (hl : t.length ≤ 4096) :
    Calls Try.prog 27 #[v] w fun e w' => ∃ u, e = .returned u ∧ OwnI w.heap.size w' u t ∧ Below w.heap.size w w' := by
  obtain ⟨a, cap, rfl, hlc, hcm, hc⟩ := ints_none _ _ _ hv
  clear hv
  obtain ⟨n, hn⟩ : ∃ n, n = t.length := ⟨_, rfl⟩
  rw [← hn] at hlc hl ⊢
  have NN := Lib.hid hn
  have HC : Hid (∀ k, k < n → ∃ b off, a = some ⟨b, off, none⟩ ∧ w.cell? ⟨b, off + k, none⟩ = some (.int .i64 (t.getD k 0))) := Lib.hid (by rw [hn]; exact hc)
  clear hn hc
  go_enter Try.func27, Try.ntmps27
  go_wp2_with fail
  go_loopg [3, 4] n (fun g sv si wr => ∃ (k : Nat), k ≤ n ∧ g = n - k ∧ si = .int .i64 k ∧ OwnI w.heap.size wr sv (t.take k) ∧ Below w.heap.size w wr)
  case atStart => exact ⟨0, Nat.zero_le _, rfl, rfl, OwnI.nil _ _, Below.refl _ _⟩
  case round =>
    obtain ⟨k, hk, hg, rfl, ho, hb⟩ := hrel
    have O := Lib.hid ho
    have Bl := Lib.hid hb
    have G := Lib.hid hg
    clear ho hg hb
    by_cases hlt : k < n
    · obtain ⟨b, off, rfl, p0⟩ := HC.out k hlt
      have r0 := (Bl.out.cell (block_lt_of_cell p0)).trans p0
      obtain ⟨x, hx⟩ : ∃ x, x = t.getD k 0 := ⟨_, rfl⟩
      rw [← hx] at r0
      have T : Hid (t.take (k + 1) = t.take k ++ [x]) := Lib.hid (by
        have hk' : k < t.length := by rw [← NN.out]; exact hlt
        have ex : t[k]? = some x := by rw [hx, List.getD_eq_getElem?_getD, List.getElem?_eq_getElem hk', Option.getD_some]
        rw [List.take_add_one, ex, Option.toList_some])
      have L : Hid ((t.take k).length ≤ 4096) := Lib.hid (by rw [List.length_take]; omega)
      clear hx p0
      have hlt' : (k : Int) < (n : Int) := by omega
      go_wp2_with (refine app_new rfl (.tmp 11) (.tmp 16) rfl (m := [x]) rfl rfl O.out Bl.out.size rfl rfl (by have := L.out; simp; omega) ?_)
      intro v' W' o1 o2 o3
      have A : Hid (OwnI w.heap.size W' v' (t.take (k + 1)) ∧ Below w.heap.size w W') := Lib.hid ⟨by rw [T.out]; exact o1, Bl.out.trans ((Below.refl _ _).grown o2 Bl.out.size fun k hk => (O.out.lt k hk).1)⟩
      clear o1 o2 o3
      go_wp2_with fail
      go_roundg (n - (k + 1))
      case measure => have := G.out; omega
      case rel => exact ⟨k + 1, by omega, rfl, by go_num, A.out⟩
    · have hge : ¬ (k : Int) < (n : Int) := by omega
      have EK : Hid (t.take k = t) := Lib.hid (List.take_of_length_le (by rw [← NN.out]; omega))
      go_wp2_with fail
      go_ret
      have := O.out
      rw [EK.out] at this
      exact ⟨_, rfl, this, Bl.out⟩
set_option maxHeartbeats 1000000 in
theorem rfree_any (h : Rs B w d f vw vn l) (i : Nat) (hi : i < l.length) :
    Calls Try.prog 36 #[.pointer (some ⟨d, 0, none⟩), .int .i64 ((f + i : Nat) : Int)] w fun e w' => e = .returned (.bool (decide (l.getD i 0 = 0))) ∧ w' = w := by
  have p2 := h.c 2
  have p3 := h.c 3
  have hx : l.getD i 0 = 0 ∨ l.getD i 0 = 1 ∨ l.getD i 0 = 2 ∨ l.getD i 0 = 3 := by
    rw [List.getD_eq_getElem?_getD, List.getElem?_eq_getElem hi]; exact h.ok _ (List.getElem_mem hi)
  have IN := Lib.hid (rin_any vn _ ((f + i : Nat) : Int) w h.on.ints)
  have IW := Lib.hid (rin_any vw _ ((f + i : Nat) : Int) w h.ow.ints)
  rw [show decide (((f + i : Nat) : Int) ∈ those [1, 2] f l) = ([1, 2] : List UInt8).contains (l.getD i 0) by rw [Bool.eq_iff_iff, decide_eq_true_iff]; exact mem_it [1, 2] f l i hi] at IN
  rw [show decide (((f + i : Nat) : Int) ∈ those [2, 3] f l) = ([2, 3] : List UInt8).contains (l.getD i 0) by rw [Bool.eq_iff_iff, decide_eq_true_iff]; exact mem_it [2, 3] f l i hi] at IW
  obtain ⟨an, cn, en, _⟩ := h.on.len
  obtain ⟨aw, cw, ew, _⟩ := h.ow.len
  obtain ⟨b, hb⟩ : ∃ b, b = ((f + i : Nat) : Int) := ⟨_, rfl⟩
  obtain ⟨Ln, hLn⟩ : ∃ Ln, Ln = (those [1, 2] f l).length := ⟨_, rfl⟩
  obtain ⟨Lw, hLw⟩ : ∃ Lw, Lw = (those [2, 3] f l).length := ⟨_, rfl⟩
  rw [← hLn] at en
  rw [← hLw] at ew
  rw [← hb] at IN IW ⊢
  subst en ew
  have q2 : w.cell? ⟨d, 2, none⟩ = some (.slice aw Lw cw) := p2
  have q3 : w.cell? ⟨d, 3, none⟩ = some (.slice an Ln cn) := p3
  obtain ⟨x, hxx⟩ : ∃ x, x = l.getD i 0 := ⟨_, rfl⟩
  rw [← hxx] at IN IW hx ⊢
  clear h p2 p3 hb hLn hLw hxx
  go_enter Try.func36, Try.ntmps36
  rcases hx with rfl | rfl | rfl | rfl
  · rw [show ([1, 2] : List UInt8).contains 0 = false from rfl] at IN
    rw [show ([2, 3] : List UInt8).contains 0 = false from rfl] at IW
    go_wp2_with fail
    refine IN.out.mono ?_
    rintro _ _ ⟨rfl, rfl⟩
    go_wp2_with fail
    refine IW.out.mono ?_
    rintro _ _ ⟨rfl, rfl⟩
    go_wp2_with fail
    go_ret
    exact ⟨rfl, rfl⟩
  · rw [show ([1, 2] : List UInt8).contains 1 = true from rfl] at IN
    go_wp2_with fail
    refine IN.out.mono ?_
    rintro _ _ ⟨rfl, rfl⟩
    go_wp2_with fail
    go_ret
    exact ⟨rfl, rfl⟩
  · rw [show ([1, 2] : List UInt8).contains 2 = true from rfl] at IN
    go_wp2_with fail
    refine IN.out.mono ?_
    rintro _ _ ⟨rfl, rfl⟩
    go_wp2_with fail
    go_ret
    exact ⟨rfl, rfl⟩
  · rw [show ([1, 2] : List UInt8).contains 3 = false from rfl] at IN
    rw [show ([2, 3] : List UInt8).contains 3 = true from rfl] at IW
    go_wp2_with fail
    refine IN.out.mono ?_
    rintro _ _ ⟨rfl, rfl⟩
    go_wp2_with fail
    refine IW.out.mono ?_
    rintro _ _ ⟨rfl, rfl⟩
    go_wp2_with fail
    go_ret
    exact ⟨rfl, rfl⟩
theorem rtaken_any (h : Rs B w d f vw vn l) : Calls Try.prog 33 #[.pointer (some ⟨d, 0, none⟩)] w fun e w' => ∃ u, e = .returned u ∧ OwnI w.heap.size w' u (those [1, 2] f l) ∧ Below w.heap.size w w' := by
  have p3 := h.c 3
  have C := Lib.hid (copied_any vn _ w h.on.ints (nowL _ _ _ h.len))
  obtain ⟨an, cn, en, _⟩ := h.on.len
  obtain ⟨Ln, hLn⟩ : ∃ Ln, Ln = (those [1, 2] f l).length := ⟨_, rfl⟩
  rw [← hLn] at en
  subst en
  have q3 : w.cell? ⟨d, 3, none⟩ = some (.slice an Ln cn) := p3
  clear h p3 hLn
  go_enter Try.func33, Try.ntmps33
  go_wp2_with fail
  refine C.out.mono ?_
  rintro _ w' ⟨u, rfl, h1, h2⟩
  have R := Lib.hid (And.intro h1 h2)
  clear h1 h2
  go_wp2_with fail
  go_ret
  exact ⟨_, rfl, R.out⟩
/-- A store of a new row. -/
theorem Rs.set3 {X : World} {v : Value} (h : Rs B w d f vw vn l) (b : Below w.heap.size w X) (o : OwnI B X v (those [1, 2] f l')) (hl : l'.length = l.length) (ok : Sts l') (hw : those [2, 3] f l' = those [2, 3] f l) : Rs B (X.setCell ⟨d, 3, none⟩ v) d f vw v l' ∧ Kept (fun k => k = d) w (X.setCell ⟨d, 3, none⟩ v) := by
  have hX := h.below b
  have K : Kept (fun k => k = d) X (X.setCell ⟨d, 3, none⟩ v) := kept_set _ _ _ rfl
  refine ⟨⟨?_, ?_, ?_, by rw [hl]; exact h.len, h.fst, ok, h.b1⟩, Kept.trans (G := fun k => k = d) (Below.kept b _) K fun _ _ h => h⟩
  · rw [heap_setCell_same _ _ _ _ _ _ hX.self, hl]; rfl
  · rw [hw]
    exact hX.ow.kept K (hX.ow.ne_of hX.self (by decide))
  · exact o.kept K (o.ne_of hX.self (by decide))
theorem Rs.set2 {X : World} {v : Value} (h : Rs B w d f vw vn l) (b : Below w.heap.size w X) (o : OwnI B X v (those [2, 3] f l')) (hl : l'.length = l.length) (ok : Sts l') (hn : those [1, 2] f l' = those [1, 2] f l) : Rs B (X.setCell ⟨d, 2, none⟩ v) d f v vn l' ∧ Kept (fun k => k = d) w (X.setCell ⟨d, 2, none⟩ v) := by
  have hX := h.below b
  have K : Kept (fun k => k = d) X (X.setCell ⟨d, 2, none⟩ v) := kept_set _ _ _ rfl
  refine ⟨⟨?_, ?_, ?_, by rw [hl]; exact h.len, h.fst, ok, h.b1⟩, Kept.trans (G := fun k => k = d) (Below.kept b _) K fun _ _ h => h⟩
  · rw [heap_setCell_same _ _ _ _ _ _ hX.self, hl]; rfl
  · exact o.kept K (o.ne_of hX.self (by decide))
  · rw [hn]
    exact hX.on.kept K (hX.on.ne_of hX.self (by decide))
theorem rcommit_any (h : Rs B w d f vw vn l) (hB : B ≤ w.heap.size) : Calls Try.prog 30 #[.pointer (some ⟨d, 0, none⟩)] w fun e w' => e = .returned (.tuple #[]) ∧ (∃ vw', Rs B w' d f vw' vn (stlR 2 0 l)) ∧ Kept (fun k => k = d) w w' := by
  have H := Lib.hid h
  have p3 := h.c 3
  have C := Lib.hid (copied_any vn _ w h.on.ints (nowL _ _ _ h.len))
  obtain ⟨an, cn, en, _⟩ := h.on.len
  obtain ⟨Ln, hLn⟩ : ∃ Ln, Ln = (those [1, 2] f l).length := ⟨_, rfl⟩
  rw [← hLn] at en
  subst en
  have q3 : w.cell? ⟨d, 3, none⟩ = some (.slice an Ln cn) := p3
  clear h p3 hLn
  go_enter Try.func30, Try.ntmps30
  go_wp2_with fail
  refine C.out.mono ?_
  rintro _ w1 ⟨u, rfl, h1, h2⟩
  have R := Lib.hid (H.out.set2 (l' := stlR 2 0 l) h2 (by rw [(commit_was f l H.out.ok).1]; exact h1.mono hB) (stlR_length _ _ _) (stlR_sts (by simp) (by simp) H.out.ok) (commit_was f l H.out.ok).2)
  have c1 := (H.out.below h2).c 2
  have c1' : w1.cell? ⟨d, 2, none⟩ = some vw := c1
  have c2 := (H.out.below h2).free 2
  obtain ⟨au, cu, eu, _⟩ := h1.len
  obtain ⟨Lu, hLu⟩ : ∃ Lu, Lu = (those [1, 2] f l).length := ⟨_, rfl⟩
  rw [← hLu] at eu
  subst eu
  clear h1 h2 c1 hLu
  go_wp2_with fail
  first | go_end0 | refine bodyPost_ret (results_none rfl _ _ _) rfl ?_
  exact ⟨rfl, ⟨_, R.out.1⟩, R.out.2⟩
theorem rback_any (h : Rs B w d f vw vn l) (hB : B ≤ w.heap.size) : Calls Try.prog 31 #[.pointer (some ⟨d, 0, none⟩)] w fun e w' => e = .returned (.tuple #[]) ∧ (∃ vn', Rs B w' d f vw vn' (stlR 0 2 l)) ∧ Kept (fun k => k = d) w w' := by
  have H := Lib.hid h
  have p3 := h.c 2
  have C := Lib.hid (copied_any vw _ w h.ow.ints (nowL _ _ _ h.len))
  obtain ⟨an, cn, en, _⟩ := h.ow.len
  obtain ⟨Ln, hLn⟩ : ∃ Ln, Ln = (those [2, 3] f l).length := ⟨_, rfl⟩
  rw [← hLn] at en
  subst en
  have q3 : w.cell? ⟨d, 2, none⟩ = some (.slice an Ln cn) := p3
  clear h p3 hLn
  go_enter Try.func31, Try.ntmps31
  go_wp2_with fail
  refine C.out.mono ?_
  rintro _ w1 ⟨u, rfl, h1, h2⟩
  have R := Lib.hid (H.out.set3 (l' := stlR 0 2 l) h2 (by rw [(back_now f l H.out.ok).1]; exact h1.mono hB) (stlR_length _ _ _) (stlR_sts (by simp) (by simp) H.out.ok) (back_now f l H.out.ok).2)
  have c1 := (H.out.below h2).c 3
  have c1' : w1.cell? ⟨d, 3, none⟩ = some vn := c1
  have c2 := (H.out.below h2).free 3
  obtain ⟨au, cu, eu, _⟩ := h1.len
  obtain ⟨Lu, hLu⟩ : ∃ Lu, Lu = (those [2, 3] f l).length := ⟨_, rfl⟩
  rw [← hLu] at eu
  subst eu
  clear h1 h2 c1 hLu
  go_wp2_with fail
  first | go_end0 | refine bodyPost_ret (results_none rfl _ _ _) rfl ?_
  exact ⟨rfl, ⟨_, R.out.1⟩, R.out.2⟩
end Go.Proofs.Ytfdhccanacpanaa
