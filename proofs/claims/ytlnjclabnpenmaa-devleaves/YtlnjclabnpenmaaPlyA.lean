/-
  The statements' own: play.
-/
import Derived.Test.YtlnjclabnpenmaaBlkA
import Derived.Deep.RegionHeldLaw
namespace Go.Proofs.Ytlnjclabnpenmaa
open Go.RowKit Go.Maps
/-- The step's own memory. -/
def OpD.At (o : OpD) (w : World) : Prop := Bytes w o.bv o.bs ∧ Fts w o.fv o.fs ∧ o.bs.length ≤ 140737488355328 ∧ o.fs.length * 16 ≤ 140737488355328
/-- What play does. -/
def Step (s : DS) (o : OpD) (s' : DS) (r : Int) : Prop :=
  (o.kind = 3 ∧ (s', r) = wrE s o.blk (blkB o)) ∨ (o.kind = 4 ∧ (s', r) = flD s) ∨ (o.kind = 9 ∧ (s', r) = edD s o.blk o.n o.bs) ∨ (o.kind = 6 ∧ (s', r) = armD s o.n) ∨ (o.kind = 8 ∧ s' = crD s o.fs ∧ r = 0) ∨ (o.kind ≠ 3 ∧ o.kind ≠ 4 ∧ o.kind ≠ 9 ∧ o.kind ≠ 6 ∧ o.kind ≠ 8 ∧ s' = s ∧ r = 0)
/-- What a call on the device leaves. -/
def Left (B : Nat) (w : World) (d mb mp : Nat) (cv : Value) (w' : World) (s' : DS) : Prop := ∃ cv', Dv B w' d mb mp cv' s' ∧ Kept (Foot d mb mp cv) w w' ∧ At cv cv' w
theorem info_fate : (Try.prog.info? 57).map (fun i => (i.zero, i.size, i.bytes)) = some (some (.agg #[.int .i64 0, .int .i64 0]), 2, 16) := by kernel_rfl
def cellsF (fs : List (Int × Int)) : List Value := fs.flatMap fun x => [.int .i64 x.1, .int .i64 x.2]
theorem cellsF_length (fs : List (Int × Int)) : (cellsF fs).length = fs.length * 2 := by
  induction fs with
  | nil => rfl
  | cons x l ih =>
    have : cellsF (x :: l) = [.int .i64 x.1, .int .i64 x.2] ++ cellsF l := rfl
    rw [this, List.length_append, ih, List.length_cons]
    simp only [List.length_cons, List.length_nil]
    omega
theorem cellsF_at : ∀ (fs : List (Int × Int)) (k i : Nat), k < fs.length → i < 2 → (cellsF fs)[k * 2 + i]? = [Value.int .i64 (fs.getD k (0, 0)).1, .int .i64 (fs.getD k (0, 0)).2][i]?
  | [], k, i, h, _ => by simp at h
  | x :: l, 0, i, _, hi => by
    have : cellsF (x :: l) = [.int .i64 x.1, .int .i64 x.2] ++ cellsF l := rfl
    rw [this, Nat.zero_mul, Nat.zero_add, List.getElem?_append_left (by simpa using hi)]
    rfl
  | x :: l, k + 1, i, h, hi => by
    have : cellsF (x :: l) = [.int .i64 x.1, .int .i64 x.2] ++ cellsF l := rfl
    rw [this, List.getElem?_append_right (by simp only [List.length_cons, List.length_nil]; omega)]
    have e : (k + 1) * 2 + i - [Value.int .i64 x.1, .int .i64 x.2].length = k * 2 + i := by simp only [List.length_cons, List.length_nil]; omega
    rw [e, cellsF_at l k i (by simpa using h) hi]
    rfl
theorem fts_own {B : Nat} {w : World} {v : Value} {fs : List (Int × Int)} (H : w.ownsRow B 57 2 v fs.length (cellsF fs)) : Fts w v fs := by
  obtain ⟨_, ⟨hv, hn⟩ | ⟨g, cap, cur, hv, hb, hg, hn, hm, hs, ht⟩⟩ := H
  · exact ⟨none, 0, by rw [hv, hn], by omega, by decide, fun _ => rfl, fun k hk => by omega⟩
  · refine ⟨_, cap, hv, hn, hm, (fun h => by cases h), fun k hk => ⟨g, 0, rfl, ?_, ?_⟩⟩
    · have := cellsF_at fs k 0 hk (by decide)
      rw [Nat.add_zero] at this
      rw [cell_of_row w g _ cur _ _ hg, Nat.zero_add, ← Array.getElem?_toList, ← List.getElem?_take_of_lt (j := fs.length * 2) (by omega), ht, this]
      rfl
    · have := cellsF_at fs k 1 hk (by decide)
      rw [cell_of_row w g _ cur _ _ hg, Nat.zero_add, ← Array.getElem?_toList, ← List.getElem?_take_of_lt (j := fs.length * 2) (by omega), ht, this]
      rfl
/-- A copy of the fates. -/
theorem copy_fts {ops : Array Oper} {rest : List Oper} {o : Oper} {a : Act} {Q : Exit → Act → World → Prop} (hgd : o.guard = none) (s y : Operand)
    (ho : o.op = .call { callee := .builtin .append, args := #[s, y], argTypes := #[45, 45] })
    {w0 : World} {v : Value} {fs : List (Int × Int)} (hs : a.eval s = .slice none 0 0) (hv : Fts w0 v fs) (hy : a.eval y = v) (hl : fs.length * 16 ≤ 140737488355328)
    (h : ∀ v' w', Hid (w'.ownsRow w0.heap.size 57 2 v' fs.length (cellsF fs) ∧ Below w0.heap.size w0 w') → wpList Try.prog ops Q rest (a.put o.dst v') w') :
    wpList Try.prog ops Q (o :: rest) a w0 := by
  obtain ⟨i0, hi, hz0, hz1, hz2⟩ := info_parts info_fate
  obtain ⟨ad, cap, rfl, hlc, hcm, hn, hc⟩ := hv
  cases ad with
  | none =>
    obtain rfl := hn rfl
    obtain rfl : fs = [] := by simpa using hlc
    refine wpList_append_own_none hgd s y 45 ho w0.heap.size 57 i0 2 Try.underlying45 hi (.slice none 0 0) 0 [] hs (World.ownsRow_nil _ _ _ _) hy ?_
    exact h _ w0 ⟨World.ownsRow_nil _ _ _ _, Below.refl _ _⟩
  | some ad =>
    refine wpList_append_own_at w0 hgd s y 45 ho w0.heap.size 57 i0 _ 2 16 Try.underlying45 hi hz0 hz1 hz2 rfl (by decide) (.slice none 0 0) 0 [] hs (World.ownsRow_nil _ _ _ _) ad fs.length cap (cellsF fs) hy (cellsF_length fs) ?_ ?_ (by unfold maxLen; omega) (by omega) (Nat.le_refl _) ?_
    · intro j u hj
      have hj' : j < fs.length * 2 := by have := (List.getElem?_eq_some_iff.1 hj).1; rw [cellsF_length] at this; exact this
      obtain ⟨b, off, e, h0, h1⟩ := hc (j / 2) (by omega)
      cases e
      rw [add_plain]
      have ej : j = j / 2 * 2 + j % 2 := by omega
      have q := cellsF_at fs (j / 2) (j % 2) (by omega) (by omega)
      rw [← ej, hj] at q
      rcases (show j % 2 = 0 ∨ j % 2 = 1 by omega) with e0 | e0
      · rw [e0] at q
        have : off + j = off + j / 2 * 2 := by omega
        rw [this, h0]; exact q.symm
      · rw [e0] at q
        have : off + j = off + j / 2 * 2 + 1 := by omega
        rw [this, h1]; exact q.symm
    · intro u hu
      unfold cellsF at hu
      obtain ⟨x, _, hx⟩ := List.mem_flatMap.1 hu
      simp only [List.mem_cons, List.not_mem_nil, or_false] at hx
      rcases hx with rfl | rfl <;> rfl
    · intro v' w' h1 h2 _ _
      refine h v' w' ⟨?_, (Below.refl _ w0).grown h2 (Nat.le_refl _) (by intro k hk; cases hk)⟩
      simpa using h1
theorem step_dup {w : World} {ops : Array Oper} {o : Oper} {a : Act} {K : Act → World → Prop} {Q : Exit → Act → World → Prop} {E : Prop} (hgd : o.guard = none) (s y : Operand)
    (ho : o.op = .call { callee := .builtin .append, args := #[s, y], argTypes := #[29, 29] }) {v : Value} {l : List UInt8} (hs : a.eval s = .slice none 0 0) (hv : Bytes w v l) (hy : a.eval y = v) (hl : l.length ≤ 140737488355328)
    (h : ∀ v' w', Hid (Own w.heap.size w' v' l ∧ Below w.heap.size w w') → K (a.put o.dst v') w') :
    if Region.wanted o (yielded ops a.tmps) = true then Oper.wp Try.prog o a w K Q else E := by
  have hw : Region.wanted o (yielded ops a.tmps) = true := by simp [Region.wanted, hgd]
  rw [if_pos hw]
  obtain ⟨i0, hi, hz0, hz1, hz2⟩ := info_parts info_byte
  obtain ⟨ad, cap, rfl, hlc, hcm, hn, hc⟩ := hv
  cases ad with
  | none =>
    obtain rfl := hn rfl
    obtain rfl : l = [] := by simpa using hlc
    have hrun := run_append_owned_none (P := Try.prog) (w := w) w.heap.size 29 o.type 5 i0 1 Try.underlying29 hi (.slice none 0 0) 0 [] (World.ownsRow_nil _ _ _ _)
    unfold Oper.wp
    simp [execOp, ho, resolve, invoke, builtin, hs, hy, hrun, Result.andThen]
    exact h _ w ⟨World.ownsRow_nil _ _ _ _, Below.refl _ _⟩
  | some ad =>
    obtain ⟨v', w', hr, h1, h2, _, h3⟩ := run_append_own_at (P := Try.prog) w w.heap.size 29 o.type 5 i0 (.int .u8 0) 1 1 Try.underlying29 hi hz0 hz1 hz2 rfl (by decide) (.slice none 0 0) 0 [] (World.ownsRow_nil _ _ _ _) ad l.length cap (cells8 l) (by rw [cells8_length]; omega) (news8 hc) (cells8_one l) (by unfold maxLen; omega) (by omega) (Nat.le_refl _)
    unfold Oper.wp execOp
    simp only [ho, resolve, invoke, builtin, Sem.run_bind, Sem.run_pure, Result.andThen_ok, List.map_toArray, List.map_cons, List.map_nil, hs, hy, hr]
    refine h v' w' ⟨?_, (Below.refl _ w).grown h2 (Nat.le_refl _) (by intro k hk; cases hk)⟩
    show w'.ownsRow _ _ _ _ _ _
    simpa using h1
set_option maxHeartbeats 2000000 in
theorem play_any {B : Nat} {w : World} {d mb mp : Nat} {cv : Value} {s : DS} (h : Dv B w d mb mp cv s) (hws : s.ws < 137438953471) (o : OpD) (ho : o.At w) :
    Calls Try.prog 22 #[.pointer (some ⟨d, 0, none⟩), .agg o.cells.toArray] w fun e w' => ∃ s' r, e = .returned (.int .i64 r) ∧ Left B w d mb mp cv w' s' ∧ Step s o s' r := by
  have H := Lib.hid h
  have HO := Lib.hid ho
  obtain ⟨X, hX⟩ : ∃ X, X = w.alloc (.cells o.cells.toArray 47) := ⟨_, rfl⟩
  have BX : Hid (Below w.heap.size w X) := Lib.hid (by rw [hX]; exact (Below.refl _ _).alloc (Nat.le_refl _) _)
  have gX : Hid (X.heap[w.heap.size]? = some (.cells o.cells.toArray 47 (0, 0))) := Lib.hid (by rw [hX, heap_alloc_new])
  have DX := Lib.hid (h.below BX.out)
  have c0 : X.cell? ⟨w.heap.size, 0, none⟩ = some (.bool o.two) := by rw [cell_of_row X _ _ _ _ _ gX.out]; rfl
  have c1 : X.cell? ⟨w.heap.size, 1, none⟩ = some (.int .i64 o.kind) := by rw [cell_of_row X _ _ _ _ _ gX.out]; rfl
  have c2 : X.cell? ⟨w.heap.size, 2, none⟩ = some (.int .i64 o.blk) := by rw [cell_of_row X _ _ _ _ _ gX.out]; rfl
  have c3 : X.cell? ⟨w.heap.size, 3, none⟩ = some (.int .i64 o.n) := by rw [cell_of_row X _ _ _ _ _ gX.out]; rfl
  have c4 : X.cell? ⟨w.heap.size, 4, none⟩ = some (.int .i64 o.len) := by rw [cell_of_row X _ _ _ _ _ gX.out]; rfl
  have c5 : X.cell? ⟨w.heap.size, 5, none⟩ = some (.int .u8 (c8 o.fill)) := by rw [cell_of_row X _ _ _ _ _ gX.out]; rfl
  have c6 : X.cell? ⟨w.heap.size, 6, none⟩ = some o.bv := by rw [cell_of_row X _ _ _ _ _ gX.out]; rfl
  have c7 : X.cell? ⟨w.heap.size, 7, none⟩ = some o.fv := by rw [cell_of_row X _ _ _ _ _ gX.out]; rfl
  obtain ⟨C, hC⟩ : ∃ C, C = o.cells.toArray := ⟨_, rfl⟩
  rw [← hC] at hX ⊢
  have hX' := hX.symm
  have CC := Lib.hid hC
  clear h ho hX hC
  by_cases k4 : o.kind = 4
  · have g3 : (o.kind == 3) = false := by rw [k4]; rfl
    have g4 : (o.kind == 4) = true := by rw [k4]; rfl
    have FL := Lib.hid (flush_any DX.out (by omega))
    have K4 := Lib.hid k4
    clear k4
    go_enter Try.func22, Try.ntmps22
    go_wp2_with fail
    refine FL.out.mono ?_
    rintro e w1 ⟨cv1, rfl, hd1, hk1, hc1⟩
    have D1 := Lib.hid (And.intro hd1 (And.intro hk1 hc1))
    clear hd1 hk1 hc1 FL hX'
    go_wp2_with fail
    go_ret
    refine ⟨_, _, rfl, ⟨cv1, D1.out.1, (Below.kept BX.out (Foot d mb mp cv)).trans (D1.out.2.1.mono (G := Foot d mb mp cv) (fun k _ h => by rcases h with h | h | h; exact .inl h; exact .inr (.inl h); exact .inr (.inr (.inl h)))) (fun _ _ h => h), ?_⟩, .inr (.inl ⟨K4.out, rfl⟩)⟩
    rcases D1.out.2.2 with rfl | rfl
    · exact At.refl _ _
    · intro k hk; cases hk
  · have g4 : (o.kind == 4) = false := by rw [beq_eq_false_iff_ne]; exact k4
    by_cases k6 : o.kind = 6
    · have g3 : (o.kind == 3) = false := by rw [k6]; rfl
      have g9 : (o.kind == 9) = false := by rw [k6]; rfl
      have g6 : (o.kind == 6) = true := by rw [k6]; rfl
      have AR := Lib.hid (arm_any DX.out o.n)
      have K6 := Lib.hid k6
      clear k4 k6
      go_enter Try.func22, Try.ntmps22
      go_wp2_with fail
      refine AR.out.mono ?_
      rintro e w1 ⟨rfl, hd1, hk1⟩
      have D1 := Lib.hid (And.intro hd1 hk1)
      clear hd1 hk1 AR hX'
      go_wp2_with fail
      go_ret
      exact ⟨_, _, rfl, ⟨cv, D1.out.1, (Below.kept BX.out (Foot d mb mp cv)).trans (D1.out.2.mono (G := Foot d mb mp cv) (fun k _ h => .inl h)) (fun _ _ h => h), At.refl _ _⟩, .inr (.inr (.inr (.inl ⟨K6.out, rfl⟩)))⟩
    · have g6 : (o.kind == 6) = false := by rw [beq_eq_false_iff_ne]; exact k6
      by_cases k8 : o.kind = 8
      · have g3 : (o.kind == 3) = false := by rw [k8]; rfl
        have g9 : (o.kind == 9) = false := by rw [k8]; rfl
        have g8 : (o.kind == 8) = true := by rw [k8]; rfl
        have FX := Lib.hid (HO.out.2.1.below BX.out)
        have K8 := Lib.hid k8
        clear k4 k6 k8
        go_enter Try.func22, Try.ntmps22
        go_wp2_with (at_builtin; refine copy_fts rfl _ _ rfl rfl FX.out rfl HO.out.2.2.2 ?_)
        intro v1 w1 O1
        have D1 := Lib.hid (DX.out.below O1.out.2)
        have hmb : mb < X.heap.size := (DX.out.foot_lt mb (.inr (.inl rfl))).2
        have CR := Lib.hid (crash_any D1.out (by omega) v1 o.fs (fun w' hk => fts_own (row_kept O1.out.1 hk (fun g hg e => by
          have := (World.ownsRow.lt O1.out.1 g hg).1
          omega))))
        obtain ⟨a1, n1, cc1, rfl⟩ : ∃ a n c, v1 = .slice a n c := by obtain ⟨a, c, e, _⟩ := fts_own O1.out.1; exact ⟨a, _, c, e⟩
        clear hX' hmb
        go_wp2_with fail
        refine CR.out.mono ?_
        rintro e w2 ⟨rfl, hd2, hk2⟩
        have D2 := Lib.hid (And.intro hd2 hk2)
        clear hd2 hk2 CR
        go_wp2_with fail
        go_ret
        refine ⟨_, _, rfl, ⟨.slice none 0 0, D2.out.1, ((Below.kept BX.out (Foot d mb mp cv)).trans (Below.kept O1.out.2 (Foot d mb mp cv)) (fun _ _ h => h)).trans (D2.out.2.mono (G := Foot d mb mp cv) (fun k _ h => by rcases h with h | h | h; exact .inl h; exact .inr (.inl h); exact .inr (.inr (.inl h)))) (fun _ _ h => h), ?_⟩, .inr (.inr (.inr (.inr (.inl ⟨K8.out, rfl, rfl⟩))))⟩
        intro k hk; cases hk
      · have g8 : (o.kind == 8) = false := by rw [beq_eq_false_iff_ne]; exact k8
        by_cases k3 : o.kind = 3
        · have g3 : (o.kind == 3) = true := by rw [k3]; rfl
          have BL : Hid (∀ W, Calls Try.prog 34 #[.agg #[.bool o.two, .int .i64 o.kind, .int .i64 o.blk, .int .i64 o.n, .int .i64 o.len, .int .u8 (c8 o.fill), o.bv, o.fv]] W fun e w' => ∃ v, e = .returned v ∧ Own W.heap.size w' v (blkB o) ∧ Below W.heap.size W w') := Lib.hid (block_any o)
          have WR : Hid (∀ w2 v2, Own X.heap.size w2 v2 (blkB o) → Below X.heap.size X.drew w2 → Calls Try.prog 14 #[.pointer (some ⟨d, 0, none⟩), .int .i64 o.blk, v2] w2 fun e w' => ∃ cv', e = .returned (.int .i64 (wrE s o.blk (blkB o)).2) ∧ Dv B w' d mb mp cv' (wrE s o.blk (blkB o)).1 ∧ Kept (Foot d mb mp cv) w2 w' ∧ At cv cv' w2) := Lib.hid (fun w2 v2 ho2 hb2 =>
            write_any (DX.out.below ⟨hb2.os, hb2.tape, hb2.output, hb2.size, hb2.block⟩) o.blk v2 (blkB o) (fun w' hk => (ho2.kept hk (fun k hk2 e => by
              have h1 := ho2.lt k hk2
              have h2 := (DX.out.foot_lt d (.inl rfl)).2
              omega)).bytes) (by omega))
          have K3 := Lib.hid k3
          have S0 : Hid (∀ w' : World, w'.heap[w.heap.size]? = some (.cells o.cells.toArray 47 (0, 0)) → w'.cell? ⟨w.heap.size, 0, none⟩ = some (.bool o.two) ∧ w'.cell? ⟨w.heap.size, 1, none⟩ = some (.int .i64 o.kind) ∧ w'.cell? ⟨w.heap.size, 2, none⟩ = some (.int .i64 o.blk) ∧ w'.cell? ⟨w.heap.size, 3, none⟩ = some (.int .i64 o.n) ∧ w'.cell? ⟨w.heap.size, 4, none⟩ = some (.int .i64 o.len) ∧ w'.cell? ⟨w.heap.size, 5, none⟩ = some (.int .u8 (c8 o.fill)) ∧ w'.cell? ⟨w.heap.size, 6, none⟩ = some o.bv ∧ w'.cell? ⟨w.heap.size, 7, none⟩ = some o.fv) := Lib.hid (fun w' hw => by
            refine ⟨?_, ?_, ?_, ?_, ?_, ?_, ?_, ?_⟩ <;> (rw [cell_of_row w' _ _ _ _ _ hw]; rfl))
          have hfl : ∀ k, Foot d mb mp cv k → k ≠ w.heap.size := fun k hk => by have := (H.out.foot_lt k hk).2; omega
          have hXs : w.heap.size < X.heap.size := lt_of_heap gX.out
          have S1 : Hid (∀ w2, Below X.heap.size X.drew w2 → w2.heap[w.heap.size]? = some (.cells o.cells.toArray 47 (0, 0))) := Lib.hid (fun w2 hb => by rw [hb.block _ hXs]; exact gX.out)
          have S2 : Hid (∀ w2 w3, Below X.heap.size X.drew w2 → Kept (Foot d mb mp cv) w2 w3 → w3.heap[w.heap.size]? = some (.cells o.cells.toArray 47 (0, 0))) := Lib.hid (fun w2 w3 hb hk => by rw [hk.block _ (lt_of_heap (S1.out w2 hb)) (fun h => hfl _ h rfl)]; exact S1.out w2 hb)
          clear k4 k6 k8 k3 hfl hXs
          go_enter Try.func22, Try.ntmps22
          go_wp2_with fail
          clear hX'
          go_region_held (fun w' : World => w'.cell? ⟨w.heap.size, 0, none⟩ = some (.bool o.two) ∧ w'.cell? ⟨w.heap.size, 1, none⟩ = some (.int .i64 o.kind) ∧ w'.cell? ⟨w.heap.size, 2, none⟩ = some (.int .i64 o.blk) ∧ w'.cell? ⟨w.heap.size, 3, none⟩ = some (.int .i64 o.n) ∧ w'.cell? ⟨w.heap.size, 4, none⟩ = some (.int .i64 o.len) ∧ w'.cell? ⟨w.heap.size, 5, none⟩ = some (.int .u8 (c8 o.fill)) ∧ w'.cell? ⟨w.heap.size, 6, none⟩ = some o.bv ∧ w'.cell? ⟨w.heap.size, 7, none⟩ = some o.fv) (first | exact S0.out _ gX.out | exact S0.out _ (S2.out _ _ hb2 hk3) | exact S0.out _ (S1.out _ hb2)) (first | (go_at_call 34; refine (BL.out _).mono ?_; rintro e w2 ⟨v2, rfl, ho2, hb2⟩) | (go_at_call 14; refine (WR.out w2 v2 ho2 hb2).mono ?_; rintro e w3 ⟨cv3, rfl, hd3, hk3, ha3⟩))
          have F := Lib.hid (And.intro hd3 (And.intro hk3 (And.intro ha3 hb2)))
          clear hd3 hk3 ha3 ho2 hb2 S0 S1 S2 BL WR
          go_wp2_with fail
          go_ret
          refine ⟨_, _, rfl, ⟨cv3, F.out.1, ((Below.kept BX.out (Foot d mb mp cv)).trans (Below.kept (w := X) (w' := w2) ⟨F.out.2.2.2.os, F.out.2.2.2.tape, F.out.2.2.2.output, F.out.2.2.2.size, F.out.2.2.2.block⟩ (Foot d mb mp cv)) (fun _ _ h => h)).trans F.out.2.1 (fun _ _ h => h), ?_⟩, .inl ⟨K3.out, rfl⟩⟩
          intro k hk
          rcases F.out.2.2.1 k hk with h | h
          · exact .inl h
          · exact .inr (Nat.le_trans (Nat.le_trans BX.out.size F.out.2.2.2.size) h)
        · have g3 : (o.kind == 3) = false := by rw [beq_eq_false_iff_ne]; exact k3
          by_cases k9 : o.kind = 9
          · have g9 : (o.kind == 9) = true := by rw [k9]; rfl
            have S0 : Hid (∀ w' : World, w'.heap[w.heap.size]? = some (.cells o.cells.toArray 47 (0, 0)) → w'.cell? ⟨w.heap.size, 0, none⟩ = some (.bool o.two) ∧ w'.cell? ⟨w.heap.size, 1, none⟩ = some (.int .i64 o.kind) ∧ w'.cell? ⟨w.heap.size, 2, none⟩ = some (.int .i64 o.blk) ∧ w'.cell? ⟨w.heap.size, 3, none⟩ = some (.int .i64 o.n) ∧ w'.cell? ⟨w.heap.size, 4, none⟩ = some (.int .i64 o.len) ∧ w'.cell? ⟨w.heap.size, 5, none⟩ = some (.int .u8 (c8 o.fill)) ∧ w'.cell? ⟨w.heap.size, 6, none⟩ = some o.bv ∧ w'.cell? ⟨w.heap.size, 7, none⟩ = some o.fv) := Lib.hid (fun w' hw => by
              refine ⟨?_, ?_, ?_, ?_, ?_, ?_, ?_, ?_⟩ <;> (rw [cell_of_row w' _ _ _ _ _ hw]; rfl))
            have hfl : ∀ k, Foot d mb mp cv k → k ≠ w.heap.size := fun k hk => by have := (H.out.foot_lt k hk).2; omega
            have hXs : w.heap.size < X.heap.size := lt_of_heap gX.out
            have S1 : Hid (∀ w2, Below X.heap.size X.drew w2 → w2.heap[w.heap.size]? = some (.cells o.cells.toArray 47 (0, 0))) := Lib.hid (fun w2 hb => by rw [hb.block _ hXs]; exact gX.out)
            have S2 : Hid (∀ w2 w3, Below X.heap.size X.drew w2 → Kept (fun k => k = mb) w2 w3 → w3.heap[w.heap.size]? = some (.cells o.cells.toArray 47 (0, 0))) := Lib.hid (fun w2 w3 hb hk => by rw [hk.block _ (lt_of_heap (S1.out w2 hb)) (fun h => hfl mb (.inr (.inl rfl)) h.symm)]; exact S1.out w2 hb)
            have VX : Hid (Bytes X.drew o.bv o.bs) := Lib.hid (HO.out.1.below BX.out.drew)
            have ED : Hid (∀ w2 v2, Own X.heap.size w2 v2 o.bs → Below X.heap.size X.drew w2 → Calls Try.prog 16 #[.pointer (some ⟨d, 0, none⟩), .int .i64 o.blk, .int .i64 o.n, v2] w2 fun e w' => e = .returned (.int .i64 (edD s o.blk o.n o.bs).2) ∧ Dv B w' d mb mp cv (edD s o.blk o.n o.bs).1 ∧ Kept (fun k => k = mb) w2 w') := Lib.hid (fun w2 v2 ho2 hb2 =>
              edit_any (DX.out.below ⟨hb2.os, hb2.tape, hb2.output, hb2.size, hb2.block⟩) o.blk o.n v2 o.bs ho2.bytes)
            have K9 := Lib.hid k9
            clear k4 k6 k8 k3 k9 hfl hXs
            go_enter Try.func22, Try.ntmps22
            go_wp2_with fail
            clear hX'
            go_region_held_law (fun w' : World => w'.cell? ⟨w.heap.size, 0, none⟩ = some (.bool o.two) ∧ w'.cell? ⟨w.heap.size, 1, none⟩ = some (.int .i64 o.kind) ∧ w'.cell? ⟨w.heap.size, 2, none⟩ = some (.int .i64 o.blk) ∧ w'.cell? ⟨w.heap.size, 3, none⟩ = some (.int .i64 o.n) ∧ w'.cell? ⟨w.heap.size, 4, none⟩ = some (.int .i64 o.len) ∧ w'.cell? ⟨w.heap.size, 5, none⟩ = some (.int .u8 (c8 o.fill)) ∧ w'.cell? ⟨w.heap.size, 6, none⟩ = some o.bv ∧ w'.cell? ⟨w.heap.size, 7, none⟩ = some o.fv) (first | exact S0.out _ gX.out | exact S0.out _ (S2.out _ _ hO2.out.2 hk3) | exact S0.out _ (S1.out _ hO2.out.2)) (first | (refine step_dup rfl _ (.tmp 27) rfl rfl VX.out rfl HO.out.2.2.1 ?_; intro v2 w2 hO2) | (go_at_call 16; refine (ED.out w2 v2 hO2.out.1 hO2.out.2).mono ?_; rintro e w3 ⟨rfl, hd3, hk3⟩))
            have F := Lib.hid (And.intro hd3 (And.intro hk3 hO2.out.2))
            clear hd3 hk3 hO2 S0 S1 S2 ED
            go_wp2_with fail
            go_ret
            exact ⟨_, _, rfl, ⟨cv, F.out.1, ((Below.kept BX.out (Foot d mb mp cv)).trans (Below.kept (w := X) (w' := w2) ⟨F.out.2.2.os, F.out.2.2.tape, F.out.2.2.output, F.out.2.2.size, F.out.2.2.block⟩ (Foot d mb mp cv)) (fun _ _ h => h)).trans (F.out.2.1.mono (G := Foot d mb mp cv) (fun k _ h => .inr (.inl h))) (fun _ _ h => h), At.refl _ _⟩, .inr (.inr (.inl ⟨K9.out, rfl⟩))⟩
          · have g9 : (o.kind == 9) = false := by rw [beq_eq_false_iff_ne]; exact k9
            have KK := Lib.hid (And.intro k3 (And.intro k4 (And.intro k9 (And.intro k6 k8))))
            clear k3 k4 k6 k8 k9
            go_enter Try.func22, Try.ntmps22
            go_wp2_with fail
            go_ret
            exact ⟨_, _, rfl, ⟨cv, DX.out, Below.kept BX.out (Foot d mb mp cv), At.refl _ _⟩, .inr (.inr (.inr (.inr (.inr ⟨KK.out.1, KK.out.2.1, KK.out.2.2.1, KK.out.2.2.2.1, KK.out.2.2.2.2, rfl, rfl⟩))))⟩
end Go.Proofs.Ytlnjclabnpenmaa
