/-
  Texts: slices that hold them; split.
-/
import Derived.Test.YtfljbipnjfciaabWaN
import Derived.Laws.AppendOwnNone
namespace Go.Proofs.Ytfljbipnjfciaab
open Go.RowKit Go.Maps
/-- The slice v holds the texts ts. -/
def Strs (w : World) (v : Value) (ts : List ByteArray) : Prop :=
  ∃ a cap, v = .slice a ts.length cap ∧ ts.length ≤ cap ∧ cap ≤ maxLen ∧ (a = none → cap = 0) ∧ (∀ k, k < ts.length → ∃ b off, a = some ⟨b, off, none⟩ ∧ w.cell? ⟨b, off + k, none⟩ = some (.string (ts.getD k ⟨#[]⟩)))
theorem Strs.below {w w' : World} {v : Value} {ts : List ByteArray} (H : Strs w v ts) (hb : Below w.heap.size w w') : Strs w' v ts := by
  obtain ⟨a, cap, e, h1, h2, h0, h3⟩ := H
  refine ⟨a, cap, e, h1, h2, h0, fun k hk => ?_⟩
  obtain ⟨b, off, ea, hc⟩ := h3 k hk
  exact ⟨b, off, ea, by rw [hb.cell (p := ⟨b, off + k, none⟩) (block_lt_of_cell hc)]; exact hc⟩
theorem Strs.len {w : World} {v : Value} {ts : List ByteArray} (H : Strs w v ts) : ∃ a cap, v = .slice a ts.length cap ∧ ts.length ≤ cap ∧ cap ≤ maxLen := by
  obtain ⟨a, cap, h, h1, h2, _⟩ := H; exact ⟨a, cap, h, h1, h2⟩
theorem Strs.at {w : World} {a : Option Addr} {n cap : Nat} {ts : List ByteArray} (H : Strs w (.slice a n cap) ts) (k : Nat) (hk : k < ts.length) : ∃ b off, a = some ⟨b, off, none⟩ ∧ w.cell? ⟨b, off + k, none⟩ = some (.string (ts.getD k ⟨#[]⟩)) := by
  obtain ⟨a', cap', e', _, _, _, hc⟩ := H
  simp only [Value.slice.injEq] at e'
  obtain ⟨rfl, rfl, rfl⟩ := e'
  exact hc k hk
theorem info_str : (Try.prog.info? 9).map (fun i => (i.zero, i.size, i.bytes)) = some (some (.string ⟨#[]⟩), 1, 16) := by kernel_rfl
def cellsS (ts : List ByteArray) : List Value := ts.map .string
theorem cellsS_at (ts : List ByteArray) (k : Nat) (h : k < ts.length) : (cellsS ts)[k]? = some (.string (ts.getD k ⟨#[]⟩)) := by simp [cellsS, h]
/-- The slice v belongs to the call alone and holds the texts ts. -/
def OwnS (B : Nat) (w : World) (v : Value) (ts : List ByteArray) : Prop := w.ownsRow B 9 1 v ts.length (cellsS ts)
theorem OwnS.strs {B : Nat} {w : World} {v : Value} {ts : List ByteArray} (H : OwnS B w v ts) : Strs w v ts := by
  obtain ⟨_, ⟨hv, hn⟩ | ⟨g, cap, cur, hv, hb, hg, hn, hm, hs, ht⟩⟩ := H
  · exact ⟨none, 0, by rw [hv, hn], by omega, by decide, fun _ => rfl, fun k hk => by omega⟩
  · refine ⟨_, cap, hv, hn, hm, (fun h => by cases h), fun k hk => ⟨g, 0, rfl, ?_⟩⟩
    rw [cell_of_row w g _ cur _ _ hg, Nat.zero_add, ← Array.getElem?_toList]
    have h1 : (cur.toList.take (ts.length * 1))[k]? = cur.toList[k]? := by rw [List.getElem?_take_of_lt (by omega)]
    rw [← h1, ht, cellsS_at ts k hk]
theorem OwnS.below {B : Nat} {w w' : World} {v : Value} {ts : List ByteArray} (H : OwnS B w v ts) (hb : Below w.heap.size w w') : OwnS B w' v ts := by
  obtain ⟨h1, h | ⟨g, cap, cur, hv, hB, hg, hr⟩⟩ := H
  · exact ⟨h1, .inl h⟩
  · have hlt : g < w.heap.size := by
      rcases Nat.lt_or_ge g w.heap.size with h | h
      · exact h
      · rw [Array.getElem?_eq_none h] at hg; simp at hg
    exact ⟨h1, .inr ⟨g, cap, cur, hv, hB, by rw [hb.block g hlt]; exact hg, hr⟩⟩
theorem OwnS.lt {B : Nat} {w : World} {v : Value} {l : List ByteArray} (h : OwnS B w v l) : ∀ k, v.ownBlock = some k → B ≤ k ∧ k < w.heap.size := World.ownsRow.lt h
theorem app_txt {ops : Array Oper} {rest : List Oper} {o : Oper} {a : Act} {Q : Exit → Act → World → Prop} (hgd : o.guard = none) (s y : Operand)
    (ho : o.op = .call { callee := .builtin .append, args := #[s, y], argTypes := #[58, 58] })
    {B : Nat} {w0 : World} {v : Value} {ts : List ByteArray} (hs : a.eval s = v) (hown : OwnS B w0 v ts) (hB : B ≤ w0.heap.size) (t : ByteArray)
    (hy : a.eval y = .slice (some ⟨w0.heap.size, 0, none⟩) 1 1) (hl : (ts.length + 1) * 16 ≤ 140737488355328)
    (h : ∀ v' w', OwnS B w' v' (ts ++ [t]) → w0.grownBy w' v.ownBlock → wpList Try.prog ops Q rest (a.put o.dst v') w') :
    wpList Try.prog ops Q (o :: rest) a (w0.alloc (.cells #[.string t] 9)) := by
  obtain ⟨i0, hi, hz0, hz1, hz2⟩ := info_parts info_str
  refine wpList_append_own_at _ hgd s y 58 ho B 9 i0 _ 1 16 Try.underlying58 hi hz0 hz1 hz2 rfl (by decide) v ts.length (cellsS ts) hs (World.ownsRow.alloc hown _) ⟨w0.heap.size, 0, none⟩ 1 1 [.string t] hy rfl ?_ ?_ (by unfold maxLen; omega) (by omega) (by simp; omega) ?_
  · intro j u hj
    rw [add_plain, Nat.zero_add, World.cell?_alloc_new, ← Array.getElem?_toList]; exact hj
  · intro v hv; simp only [List.mem_cons, List.not_mem_nil, or_false] at hv; rw [hv]; rfl
  · intro v' w' h1 h2 _ _
    refine h v' w' ?_ (grown_alloc h2)
    show w'.ownsRow _ _ _ _ _ _
    have e : cellsS (ts ++ [t]) = cellsS ts ++ [.string t] := by simp [cellsS]
    rw [e, List.length_append]; exact h1

set_option maxHeartbeats 2000000 in
set_option maxRecDepth 100000 in
theorem sameTexts_yes (v v' : Value) (ts : List ByteArray) (w : World) (hv : Strs w v ts) (hv' : Strs w v' ts) :
    Calls Try.prog 26 #[v, v'] w fun e w' => e = .returned (.bool true) ∧ Below w.heap.size w w' := by
  have V : Aside (Strs w v ts ∧ Strs w v' ts) := ⟨hv, hv'⟩
  obtain ⟨a, cap, rfl, hlc, hcm⟩ := hv.len
  obtain ⟨a', cap', rfl, hlc', hcm'⟩ := hv'.len
  unfold maxLen at hcm hcm'
  clear hv hv'
  go_enter Try.func26, Try.ntmps26
  go_wp2_with fail
  go_loopg [5] ts.length (fun g si wr => ∃ (k : Nat), k ≤ ts.length ∧ g = ts.length - k ∧ si = .int .i64 k ∧ Below w.heap.size w wr)
  case atStart => exact ⟨0, Nat.zero_le _, rfl, rfl, Below.refl _ _⟩
  case round =>
    obtain ⟨k, hk, hg, rfl, hb⟩ := hrel
    have R : Aside (gk = ts.length - k ∧ Below w.heap.size w wr) := ⟨hg, hb⟩
    clear hg hb
    by_cases hlt : k < ts.length
    · obtain ⟨b, off, rfl, p0⟩ := (V.out.1.below R.out.2).at k hlt
      obtain ⟨b', off', rfl, q0⟩ := (V.out.2.below R.out.2).at k hlt
      obtain ⟨t, ht⟩ : ∃ t, t = ts.getD k ⟨#[]⟩ := ⟨_, rfl⟩
      rw [← ht] at p0 q0
      clear ht
      have hlt' : (k : Int) < (ts.length : Int) := by omega
      go_wp2_with fail
      go_quiet (fail)
      go_wp2_with fail
      go_roundg (ts.length - (k + 1))
      case measure => have := R.out.1; omega
      case rel => exact ⟨k + 1, by omega, rfl, by go_num, R.out.2.trans ⟨rfl, rfl, rfl, Nat.le_refl _, fun _ _ => rfl⟩⟩
    · go_wp2_with fail
      go_ret
      exact ⟨rfl, R.out.2⟩


/-- Texts behind texts. -/
theorem app_strs {ops : Array Oper} {rest : List Oper} {o : Oper} {a : Act} {Q : Exit → Act → World → Prop} (hgd : o.guard = none) (s y : Operand)
    (ho : o.op = .call { callee := .builtin .append, args := #[s, y], argTypes := #[58, 58] })
    {B : Nat} {w0 : World} {v u : Value} {ts us : List ByteArray} (hs : a.eval s = v) (hown : OwnS B w0 v ts) (hB : B ≤ w0.heap.size) (hu : Strs w0 u us) (hy : a.eval y = u) (hl : (ts.length + us.length) * 16 ≤ 140737488355328)
    (h : ∀ v' w', OwnS B w' v' (ts ++ us) → w0.grownBy w' v.ownBlock → wpList Try.prog ops Q rest (a.put o.dst v') w') :
    wpList Try.prog ops Q (o :: rest) a w0 := by
  obtain ⟨i0, hi, hz0, hz1, hz2⟩ := info_parts info_str
  obtain ⟨ad, cap, rfl, hlc, hcm, hn, hc⟩ := hu
  cases ad with
  | none =>
    obtain rfl := hn rfl
    obtain rfl : us = [] := by simpa using hlc
    refine wpList_append_own_none hgd s y 58 ho B 9 i0 1 Try.underlying58 hi v ts.length (cellsS ts) hs hown hy ?_
    exact h _ w0 (by simpa using hown) ⟨rfl, rfl, rfl, Nat.le_refl _, fun _ _ _ => rfl⟩
  | some ad =>
    refine wpList_append_own_at w0 hgd s y 58 ho B 9 i0 _ 1 16 Try.underlying58 hi hz0 hz1 hz2 rfl (by decide) v ts.length (cellsS ts) hs hown ad us.length cap (cellsS us) hy (by simp [cellsS]) ?_ ?_ (by unfold maxLen; omega) (by omega) hB ?_
    · intro j u hj
      have hj' : j < us.length := by
        have := (List.getElem?_eq_some_iff.1 hj).1
        simpa [cellsS] using this
      rw [cellsS_at us j hj'] at hj
      obtain ⟨b, off, e, hcell⟩ := hc j hj'
      cases e
      rw [add_plain]
      rw [← hj]
      exact hcell
    · intro u hu
      simp only [cellsS, List.mem_map] at hu
      obtain ⟨t, _, rfl⟩ := hu
      rfl
    · intro v' w' h1 h2 _ _
      refine h v' w' ?_ h2
      show w'.ownsRow _ _ _ _ _ _
      have e : cellsS (ts ++ us) = cellsS ts ++ cellsS us := by simp [cellsS]
      rw [e, List.length_append]; exact h1
/-- The records of a payload, and whether it is one. -/
def splF : Nat → List UInt8 → List ByteArray → List ByteArray × Bool
  | 0, _, _ => ([], false)
  | f + 1, p, acc =>
    if p.length < 4 then (acc, decide (0 < acc.length) && decide (p.length = 0))
    else if leN (p.take 4) < 1 ∨ min 32768 (p.length - 4) < leN (p.take 4) then ([], false)
    else splF f ((p.drop 4).drop (leN (p.take 4))) (acc ++ [txt ((p.drop 4).take (leN (p.take 4)))])
theorem splF_go (f : Nat) (q : List UInt8) (acc : List ByteArray) (h1 : ¬ q.length < 4) (h2 : ¬ (leN (q.take 4) < 1 ∨ min 32768 (q.length - 4) < leN (q.take 4))) : splF (f + 1) q acc = splF f ((q.drop 4).drop (leN (q.take 4))) (acc ++ [txt ((q.drop 4).take (leN (q.take 4)))]) := by
  rw [splF, if_neg h1, if_neg h2]
def spl (p : List UInt8) : List ByteArray × Bool := splF (p.length + 1) p []
theorem Bytes.cut {w : World} {b off cap : Nat} {l : List UInt8} (H : Bytes w (.slice (some ⟨b, off, none⟩) l.length cap) l) (m : Nat) (hm : m ≤ l.length) : Bytes w (.slice (if cap = m then some ⟨b, off, none⟩ else some ⟨b, off + m, none⟩) (l.length - m) (cap - m)) (l.drop m) := by
  split
  · rename_i e
    subst e
    have h := H.drop_all hm
    rw [Nat.sub_self]
    exact h
  · have h := H.drop m hm
    simpa only [Option.map_some, add_plain] using h
theorem wp_min {ops : Array Oper} {rest : List Oper} {o : Oper} {a : Act} {w : World} {Q : Exit → Act → World → Prop} (x : Operand) (ts : Array TypeId)
    (ho : o.op = .call { callee := .builtin .min, args := #[.const (.int .i64 32768), x], argTypes := ts }) (hw : Region.wanted o (yielded ops a.tmps) = true) (k M : Nat) (hx : a.eval x = .int .i64 (k : Int)) (hM : M = min 32768 k)
    (h : wpList Try.prog ops Q rest (a.put o.dst (.int .i64 (M : Int))) w) : wpList Try.prog ops Q (o :: rest) a w := by
  rw [wpList, if_pos hw]
  refine .inl ?_
  have e : (if (k : Int) < 32768 then (k : Int) else 32768) = (M : Int) := by split <;> omega
  have e2 : a.eval (.const (.int .i64 32768)) = .int .i64 32768 := rfl
  unfold Oper.wp execOp
  simp only [ho, resolve, invoke, builtin, Sem.run_bind, Sem.run_pure, Result.andThen_ok, List.map_toArray, List.map_cons, List.map_nil, hx, e2, run_min_int2, e]
  exact h
set_option maxRecDepth 100000 in
set_option maxHeartbeats 4000000 in
theorem split_any (v : Value) (p : List UInt8) (w : World) (hv : Bytes w v p) (hl : p.length ≤ 300000) : Calls Try.prog 84 #[v] w fun e w' => ∃ vr, e = .returned (.tuple #[vr, .bool (spl p).2]) ∧ OwnS w.heap.size w' vr (spl p).1 ∧ Below w.heap.size w w' := by
  obtain ⟨R, hR⟩ : ∃ R, R = spl p := ⟨_, rfl⟩
  rw [← hR]
  have HR := Lib.hid hR
  have V := Lib.hid hv
  obtain ⟨a, cap, rfl, _, _⟩ := hv.len
  obtain ⟨n, hn⟩ : ∃ n, n = p.length := ⟨_, rfl⟩
  have NN := Lib.hid hn
  rw [← hn] at hl ⊢
  clear hv hR
  go_enter Try.func84, Try.ntmps84
  go_wp2_with fail
  go_loopg [0, 4, 5] (n + 1) (fun gg s0 s4 s5 wr => ∃ (q : List UInt8) (acc : List ByteArray) (a' : Option Addr) (m c' : Nat) (a4 : Option Addr) (c4 : Nat), s0 = .slice a' m c' ∧ s4 = .slice a4 acc.length c4 ∧ m = q.length ∧ Bytes w (.slice a' m c') q ∧ m + 1 ≤ gg ∧ gg ≤ n + 1 ∧ OwnS w.heap.size wr (.slice a4 acc.length c4) acc ∧ acc.length + m ≤ n ∧ R = splF gg q acc ∧ Below w.heap.size w wr)
  case atStart => exact ⟨p, [], a, n, cap, none, 0, rfl, rfl, NN.out, by rw [NN.out]; exact V.out, Nat.le_refl _, Nat.le_refl _, World.ownsRow_nil _ _ _ _, by simp, by rw [HR.out, NN.out]; rfl, Below.refl _ _⟩
  case round =>
    obtain ⟨q, acc, a', m, c', a4, c4, rfl, rfl, hm, hb, hg1, hg2, ho, hacc, hres, hbl⟩ := hrel
    obtain ⟨f, rfl⟩ : ∃ f, gk = f + 1 := ⟨gk - 1, by omega⟩
    have F := Lib.hid (And.intro hb (And.intro ho (And.intro hres hbl)))
    have HM := Lib.hid hm
    have hc' : m ≤ c' ∧ c' ≤ 9223372036854775807 := by
      obtain ⟨a2, c2, e, h1, h2, _⟩ := hb
      simp only [Value.slice.injEq] at e
      unfold maxLen at h2
      rw [e.2.1, e.2.2]
      exact ⟨h1, h2⟩
    have hA : 0 < m → ∃ b off, a' = some ⟨b, off, none⟩ := fun h => by
      obtain ⟨a2, c2, e, _, _, _, h3⟩ := hb
      simp only [Value.slice.injEq] at e
      obtain ⟨b, off, e2, _⟩ := h3 0 (by rw [← hm]; exact h)
      exact ⟨b, off, by rw [e.1]; exact e2⟩
    obtain ⟨k4, hk4⟩ : ∃ k4, k4 = acc.length := ⟨_, rfl⟩
    rw [← hk4] at F hacc ⊢
    have K4 := Lib.hid hk4
    clear hb ho hres hbl hm hk4
    by_cases h4 : m < 4
    · have E : Hid (R = (acc, decide (0 < acc.length) && decide (q.length = 0))) := Lib.hid (by rw [F.out.2.2.1]; unfold splF; rw [if_pos (by rw [← HM.out]; exact h4)])
      have d4 : decide ((m : Int) ≥ 4) = false := decide_eq_false (by omega)
      have h4' : ¬ 4 ≤ m := by omega
      by_cases hk0 : 0 < k4
      · have dk : decide ((k4 : Int) > 0) = true := decide_eq_true (by omega)
        clear hA
        go_wp2_with fail
        go_ret2
        rw [E.out]
        refine ⟨_, ?_, F.out.2.1, F.out.2.2.2⟩
        have e1 : decide (0 < acc.length) = true := decide_eq_true (by rw [← K4.out]; exact hk0)
        have e2 : decide (q.length = 0) = ((m : Int) == 0) := by rw [← HM.out]; by_cases h : m = 0 <;> simp [h]
        rw [e1, e2, Bool.true_and]
        rfl
      · have dk : decide ((k4 : Int) > 0) = false := decide_eq_false (by omega)
        clear hA
        go_wp2_with fail
        go_ret2
        rw [E.out]
        refine ⟨_, ?_, F.out.2.1, F.out.2.2.2⟩
        have e1 : decide (0 < acc.length) = false := decide_eq_false (by rw [← K4.out]; exact hk0)
        rw [e1, Bool.false_and]
        rfl
    · have h4' : 4 ≤ m := by omega
      obtain ⟨b, off, rfl⟩ := hA (by omega)
      clear hA
      obtain ⟨N, hN⟩ : ∃ N, N = leN (q.take 4) := ⟨_, rfl⟩
      have ql : (q.take 4).length = 4 := by rw [List.length_take, ← HM.out]; omega
      have hN32 : N < 4294967296 := by have := leN_lt (q.take 4); rw [ql] at this; rw [hN]; exact this
      have wN : IntKind.i64.wrap (N : Int) = (N : Int) := wrap_in (by omega) (by omega)
      have GT : Hid (Calls Try.prog 35 #[.slice (some ⟨b, off, none⟩) 4 c'] wr fun e w' => e = .returned (.int .u64 (N : Int)) ∧ w' = wr) := Lib.hid (by
        have q1 := F.out.1
        rw [HM.out] at q1
        rw [hN]
        exact get_any _ _ wr ((q1.take 4 (by rw [← HM.out]; omega)).below F.out.2.2.2) (by rw [ql]; omega))
      have CUT : Hid (Bytes w (.slice (if c' = 4 then some ⟨b, off, none⟩ else some ⟨b, off + 4, none⟩) (m - 4) (c' - 4)) (q.drop 4)) := Lib.hid (by
        have q1 := F.out.1
        rw [HM.out] at q1 ⊢
        exact q1.cut 4 (by rw [← HM.out]; omega))
      have HN := Lib.hid hN
      obtain ⟨k, hk⟩ : ∃ k, m = k + 4 := ⟨m - 4, by omega⟩
      subst hk
      rw [Nat.add_sub_cancel] at CUT
      clear hN h4 ql
      by_cases hbad : N < 1 ∨ min 32768 k < N
      · have E : Hid (R = ([], false)) := Lib.hid (by rw [F.out.2.2.1]; unfold splF; rw [if_neg (by rw [← HM.out]; omega), if_pos (by rw [← HM.out, ← HN.out, Nat.add_sub_cancel]; exact hbad)])
        by_cases h1 : N < 1
        · have d1 : decide ((N : Int) < 1) = true := decide_eq_true (by omega)
          go_wp2_with fail
          refine GT.out.mono ?_
          rintro r w2 ⟨rfl, rfl⟩
          go_wp2_with fail
          all_goals
            go_ret2
            rw [E.out]
            exact ⟨_, rfl, World.ownsRow_nil _ _ _ _, F.out.2.2.2⟩
        · have d1 : decide ((N : Int) < 1) = false := decide_eq_false (by omega)
          have hb2 : min 32768 k < N := by omega
          have HC := Lib.hid hc'
          have hck : k + 4 ≤ c' := hc'.1
          clear hbad hc' h4'
          have HL := Lib.hid (And.intro hl (And.intro hN32 (And.intro hg1 (And.intro hg2 hacc))))
          have h44 : (4 : Int) ≤ (k : Int) + 4 := by omega
          obtain ⟨M, hM⟩ : ∃ M, M = min 32768 k := ⟨_, rfl⟩
          have HM2 := Lib.hid hM
          have hb4 : (M : Int) < (N : Int) := by omega
          have hb5 : M < N := by omega
          clear hb2 hl hN32 hg1 hg2 hacc h1 hM
          go_wp2_with fail
          refine GT.out.mono ?_
          rintro r w2 ⟨rfl, rfl⟩
          go_wp2_with (refine wp_min (.tmp 20) _ rfl (by rfl) k M rfl HM2.out ?_)
          all_goals
            go_ret2
            rw [E.out]
            exact ⟨_, rfl, World.ownsRow_nil _ _ _ _, F.out.2.2.2⟩
      · have E : Hid (R = splF f ((q.drop 4).drop N) (acc ++ [txt ((q.drop 4).take N)])) := Lib.hid (by rw [F.out.2.2.1, splF_go f q acc (by rw [← HM.out]; omega) (by rw [← HM.out, ← HN.out, Nat.add_sub_cancel]; exact hbad), ← HN.out])
        have hN1 : 1 ≤ N := by omega
        have d1 : decide ((N : Int) < 1) = false := decide_eq_false (by omega)
        have HC := Lib.hid hc'
        have hck : k + 4 ≤ c' := hc'.1
        obtain ⟨M, hM⟩ : ∃ M, M = min 32768 k := ⟨_, rfl⟩
        have HM2 := Lib.hid hM
        have hb3 : ¬ M < N := by omega
        have hb4 : ¬ (M : Int) < (N : Int) := by omega
        have hNk : N ≤ k := by omega
        have p4 : ¬ c' = 4 := by omega
        have h44 : (4 : Int) ≤ (k : Int) + 4 := by omega
        have hNc : (N : Int) ≤ (c' : Int) - 4 := by omega
        have hNc2 : N ≤ c' - 4 := by omega
        rw [if_neg p4] at CUT
        have ql : (q.drop 4).length = k := by rw [List.length_drop, ← HM.out]; omega
        have B1 : Bytes w (.slice (some ⟨b, off + 4, none⟩) (q.drop 4).length (c' - 4)) (q.drop 4) := by rw [ql]; exact CUT.out
        have cvt := convT ((B1.take N (by rw [ql]; exact hNk)).below F.out.2.2.2)
        have B2 : Hid (Bytes w (.slice (if c' - 4 = N then some ⟨b, off + 4, none⟩ else some ⟨b, off + 4 + N, none⟩) (k - N) (c' - 4 - N)) ((q.drop 4).drop N)) := Lib.hid (by
          have q2 := B1.cut N (by rw [ql]; exact hNk)
          rw [ql] at q2
          exact q2)
        obtain ⟨T, hT⟩ : ∃ T, T = txt ((q.drop 4).take N) := ⟨_, rfl⟩
        rw [← hT] at E cvt
        have SZ : Hid (w.heap.size ≤ wr.heap.size) := Lib.hid F.out.2.2.2.size
        have AL : Hid ((acc.length + 1) * 16 ≤ 140737488355328) := Lib.hid (by rw [← K4.out]; omega)
        have HL := Lib.hid (And.intro hl (And.intro hN32 (And.intro hg1 (And.intro hg2 hacc))))
        clear hbad hc' h4' hM B1 ql hT hl hN32 hg1 hg2 hacc
        go_wp2_with fail
        refine GT.out.mono ?_
        rintro r w2 ⟨rfl, rfl⟩
        go_wp2_with first | (refine wp_min (.tmp 20) _ rfl (by rfl) k M rfl HM2.out ?_) | (refine app_txt rfl (.tmp 24) (.tmp 29) rfl (B := w.heap.size) (v := .slice a4 k4 c4) (ts := acc) rfl F.out.2.1 SZ.out T rfl AL.out ?_; intro v6 w6 ho6 hg6; have F6 := Lib.hid (And.intro ho6 hg6); obtain ⟨a6, n6, c6, e6⟩ : ∃ a n c, v6 = .slice a n c := (by obtain ⟨a, c, e, _⟩ := ho6.strs.len; exact ⟨a, _, c, e⟩); subst e6; clear ho6 hg6)
        all_goals
          have n6e : n6 = (acc ++ [T]).length := by
            obtain ⟨a2, c2, e, _⟩ := F6.out.1.strs.len
            simp only [Value.slice.injEq] at e
            exact e.2.1
          have o6 := F6.out.1
          rw [n6e] at o6 ⊢
          have b6 : Below w.heap.size w w6 := F.out.2.2.2.trans (Below.grown (Below.refl _ _) F6.out.2 SZ.out (fun k hk => (World.ownsRow.lt F.out.2.1 k hk).1))
          have la : (acc ++ [T]).length = k4 + 1 := by rw [List.length_append, ← K4.out]; rfl
          have lq : ((q.drop 4).drop N).length = k - N := by rw [List.length_drop, List.length_drop, ← HM.out]; omega
          have hh := HL.out
          go_roundg f
          case measure => omega
          case rel =>
            have b2 := B2.out
            by_cases hcn : c' - 4 = N
            · have hz : c' - 4 - N = 0 := by omega
              rw [if_pos hcn, hz] at b2
              first
              | exact ⟨_, _, _, _, _, _, _, rfl, rfl, lq.symm, b2, by omega, by omega, o6, by rw [la]; omega, E.out, b6⟩
              | (exfalso; first | omega | (exact absurd hcn (by assumption)))
            · rw [if_neg hcn] at b2
              first
              | exact ⟨_, _, _, _, _, _, _, rfl, rfl, lq.symm, b2, by omega, by omega, o6, by rw [la]; omega, E.out, b6⟩
              | (exfalso; first | omega | (exact absurd (by assumption) hcn))
end Go.Proofs.Ytfljbipnjfciaab
