/-
  slices.Delete at events, from the beginning.
-/
import Derived.Test.YtfkoiehnkelpoaaDoorWtC
import Derived.Laws.CopyRow
namespace Go.Proofs.YtfkoiehnkelpoaaDoor
open Go.RowKit
namespace Wt
/-- clear(s), of elements of several cells. -/
theorem run_clear_row {P : Program} (w : World) (t e ty : TypeId) (z : Value) (ht : P.underlying t = some (.slice e)) (hv : ∀ w, (zeroValue e).run P w = .ok z w) (h1 : ∀ u ∈ z.cells.toList, u.oneCell' = true) (g o n c : Nat) (hn : 0 < n) (cur : Array Value) (hg : w.heap[g]? = some (.cells cur e (0, 0))) (hfit : o + n * z.cells.size ≤ cur.size) :
    ∃ zs : List Value, zs.length = n * z.cells.size ∧ (Builtin.clear_ #[t] ty #[.slice (some ⟨g, o, none⟩) n c]).run P w = .ok (.tuple #[]) (w.setRow g (cur.toList.take o ++ zs ++ cur.toList.drop (o + zs.length)).toArray) := by
  refine ⟨(Builtin.zeroCells z.cells n).toList, by rw [Array.length_toList, size_zeroCells], ?_⟩
  have hl : (Builtin.zeroCells z.cells n).toList.length = n * z.cells.size := by rw [Array.length_toList, size_zeroCells]
  have h1' : ∀ u ∈ (Builtin.zeroCells z.cells n).toList, u.oneCell' = true := by
    intro u hu
    obtain ⟨i, hi, rfl⟩ := List.mem_iff_getElem.1 hu
    rw [hl] at hi
    have hp : 0 < z.cells.size := by
      rcases Nat.eq_zero_or_pos z.cells.size with q | q
      · rw [q] at hi; omega
      · exact q
    have hm : i % z.cells.size < z.cells.size := Nat.mod_lt _ hp
    apply h1
    simp [Builtin.zeroCells]
    rw [getElem!_pos z.cells _ hm]
    exact Array.getElem_mem hm
  have hst := run_storeCells_at P g o e (Builtin.zeroCells z.cells n).toList 0 cur w hg (by rw [hl]; omega) h1'
  simp only [Nat.add_zero] at hst
  obtain ⟨m, rfl⟩ : ∃ m, n = m + 1 := ⟨n - 1, by omega⟩
  simp [Builtin.clear_, run_underlying ht, hv, hst]
theorem step_append_run {P : Program} {ops : Array Oper} {o : Oper} {a : Act} {w : World} {K : Act → World → Prop} {Q : Exit → Act → World → Prop} {E : Prop}
    (hg : o.guard = none) (s x : Operand) (t : TypeId) (hop : o.op = Op.call { callee := Callee.builtin Builtin.append, args := #[s, x], argTypes := #[t, t] })
    (v1 v2 : Value) (hs : a.eval s = v1) (hx : a.eval x = v2) (r : Value) (w' : World) (hr : ∀ ty, (Builtin.append_ #[t, t] ty #[v1, v2]).run P w = .ok r w') (hK : K (a.put o.dst r) w') :
    if Region.wanted o (yielded ops a.tmps) = true then Oper.wp P o a w K Q else E := by
  have hw : Region.wanted o (yielded ops a.tmps) = true := by simp [Region.wanted, hg]
  rw [if_pos hw]
  have hrun := hr o.type
  unfold Oper.wp
  simp [execOp, hop, resolve, invoke, builtin, hs, hx, hrun, Result.andThen]
  exact hK
theorem zero_ev (w : World) : (zeroValue 33).run Tryd.prog w = .ok (.agg #[.int .i64 0, .int .i64 0, .bool false, .string ⟨#[]⟩, .string ⟨#[]⟩]) w := by kernel_rfl
set_option maxHeartbeats 8000000 in
set_option maxRecDepth 100000 in
theorem delete_any (xs : List Ev) (j : Nat) (hj : j ≤ xs.length) (B : Nat) (v : Value) (w : World) (H : OwnR kE B w v xs) :
    Calls Tryd.prog 63 #[v, .int .i64 0, .int .i64 j] w fun e w' => ∃ v', e = .returned v' ∧ OwnR kE B w' v' (xs.drop j) ∧ v'.ownBlock = v.ownBlock ∧ w.grownBy w' v.ownBlock := by
  obtain ⟨a, cap, rfl, hlc, hcm⟩ := (H.row okE).len
  unfold maxLen at hcm
  have H' := Lib.hid H
  obtain ⟨n, hn⟩ : ∃ n, n = xs.length := ⟨_, rfl⟩
  rw [← hn] at hlc hj H' ⊢
  have HN := Lib.hid hn
  clear hn H
  have hjc : j ≤ cap := by omega
  by_cases h0 : j = 0
  · subst h0
    have h0n : (0 : Int) ≤ (n : Int) := by omega
    go_enter Tryd.func63, Tryd.ntmps63
    go_wp2_with fail
    go_ret
    exact ⟨_, rfl, by rw [List.drop_zero]; exact H'.out, rfl, ⟨rfl, rfl, rfl, Nat.le_refl _, fun _ _ _ => rfl⟩⟩
  · have hjp : 0 < j := by omega
    obtain ⟨-, ⟨hv, hz⟩ | ⟨g, cap', cur, hv, hB, hg, -, hmx, hs, ht⟩⟩ := H'.out
    · have := HN.out; omega
    · simp only [Value.slice.injEq] at hv
      obtain ⟨rfl, hnn, rfl⟩ := hv
      clear hnn
      have hs5 : cur.size = cap * 5 := hs
      have htn : cur.toList.take (n * 5) = cellsR kE xs := by rw [HN.out]; exact ht
      obtain ⟨news, hnews⟩ : ∃ news, news = cellsR kE (xs.drop j) := ⟨_, rfl⟩
      have hnl : news.length = (n - j) * 5 := by rw [hnews, cellsR_length okE, List.length_drop, HN.out]; rfl
      have hnd : news = (cur.toList.take (n * 5)).drop (j * 5) := by
        rw [htn, hnews]
        have h3 : cellsR kE xs = cellsR kE (xs.take j) ++ cellsR kE (xs.drop j) := by rw [← cellsR_app, List.take_append_drop]
        have h4 : j * 5 = (cellsR kE (xs.take j)).length := by rw [cellsR_length okE, List.length_take, ← HN.out, Nat.min_eq_left (by omega)]; rfl
        rw [h3, h4, List.drop_left]
      have hone : ∀ u ∈ news, u.oneCell' = true := by rw [hnews]; exact cellsR_one okE _
      obtain ⟨i0, hi, hz0, hz1, hz2⟩ := info_parts (by kernel_rfl : (Tryd.prog.info? 33).map (fun i => (i.zero, i.size, i.bytes)) = some (some (.agg #[.int .i64 0, .int .i64 0, .bool false, .string ⟨#[]⟩, .string ⟨#[]⟩]), 5, 56))
      obtain ⟨A, hA, hsrc⟩ : ∃ A : Addr, (if cap = j then some (⟨g, 0, none⟩ : Addr) else some ⟨g, j * 5, none⟩) = some A ∧ Hid (∀ t u, news[t]? = some u → w.drew.cell? (A.add t) = some u) := by
        by_cases h : cap = j
        · refine ⟨⟨g, 0, none⟩, by simp [h], Lib.hid fun t u hu => ?_⟩
          have h0 : news.length = 0 := by rw [hnl]; omega
          rw [List.length_eq_zero_iff.1 h0] at hu
          simp at hu
        · refine ⟨⟨g, j * 5, none⟩, by simp [h], Lib.hid fun t u hu => ?_⟩
          have ht : t < (n - j) * 5 := by
            have := (List.getElem?_eq_some_iff.1 hu).1
            rwa [hnl] at this
          rw [hnd, List.getElem?_drop, List.getElem?_take, if_pos (by omega)] at hu
          rw [add_plain]
          show w.cell? _ = _
          rw [cell_of_row _ _ _ _ _ _ hg, ← Array.getElem?_toList]
          exact hu
      obtain ⟨row, hrow⟩ : ∃ row, row = (cur.toList.take (0 * i0.size) ++ news ++ cur.toList.drop (0 * i0.size + news.length)).toArray := ⟨_, rfl⟩
      have hap : ∀ ty, (Builtin.append_ #[28, 28] ty #[.slice (some ⟨g, 0, none⟩) 0 cap, .slice (some A) (n - j) (cap - j)]).run Tryd.prog w.drew = .ok (.slice (some ⟨g, 0, none⟩) (n - j) cap) (w.drew.setRow g row) := fun ty => by
        have := run_append_room (P := Tryd.prog) (w := w.drew) 28 ty 33 i0 Tryd.underlying28 hi g 0 cap cur hg A (n - j) (cap - j) news (by rw [hnl, hz1]) hsrc.out hone (by omega) (by rw [hz1, hnl, hs5]; omega)
        rw [← hrow, Nat.zero_add] at this
        exact this
      have hrl : row.toList = news ++ cur.toList.drop news.length := by rw [hrow]; simp
      have hrs : row.size = cap * 5 := by
        have e : row.toList.length = news.length + (cur.toList.length - news.length) := by rw [hrl, List.length_append, List.length_drop]
        have e1 : row.toList.length = row.size := Array.length_toList
        have e2 : cur.toList.length = cur.size := Array.length_toList
        rw [e1, e2, hs5, hnl] at e
        omega
      obtain ⟨W1, hW1⟩ : ∃ W1, W1 = w.drew.setRow g row := ⟨_, rfl⟩
      have hg1 : W1.heap[g]? = some (.cells row 33 (0, 0)) := by rw [hW1]; exact setRow_heap _ _ _ _ _ _ hg
      obtain ⟨zs, hzl, hcl0⟩ : ∃ zs : List Value, zs.length = j * 5 ∧ ∀ ty, (Builtin.clear_ #[28] ty #[.slice (some ⟨g, (n - j) * 5, none⟩) (n - (n - j)) (cap - (n - j))]).run Tryd.prog W1 = .ok (.tuple #[]) (W1.setRow g (row.toList.take ((n - j) * 5) ++ zs ++ row.toList.drop ((n - j) * 5 + zs.length)).toArray) := by
        have e : n - (n - j) = j := by omega
        obtain ⟨zs, h1, h2⟩ := run_clear_row (P := Tryd.prog) W1 28 33 0 _ Tryd.underlying28 zero_ev (by intro u hu; simp [Value.cells] at hu; rcases hu with rfl | rfl | rfl | rfl | rfl <;> rfl) g ((n - j) * 5) (n - (n - j)) (cap - (n - j)) (by omega) row hg1 (by rw [hrs]; show _ + _ * 5 ≤ _; omega)
        exact ⟨zs, by rw [h1, e]; rfl, fun ty => h2⟩
      obtain ⟨W2, hW2⟩ : ∃ W2, W2 = W1.setRow g (row.toList.take ((n - j) * 5) ++ zs ++ row.toList.drop ((n - j) * 5 + zs.length)).toArray := ⟨_, rfl⟩
      have FIN : Hid (OwnR kE B W2 (.slice (some ⟨g, 0, none⟩) (n - j) cap) (xs.drop j) ∧ w.grownBy W2 (some g)) := Lib.hid (by
        have hg2 : W2.heap[g]? = some (.cells (row.toList.take ((n - j) * 5) ++ zs ++ row.toList.drop ((n - j) * 5 + zs.length)).toArray 33 (0, 0)) := by rw [hW2]; exact setRow_heap _ _ _ _ _ _ hg1
        have e : (xs.drop j).length = n - j := by rw [List.length_drop, HN.out]
        refine ⟨?_, ?_⟩
        · have := OwnR.ofParts okE (xs := xs.drop j) hB hg2 (by omega) hmx (by
            show _ = cap * 5
            rw [List.size_toArray, List.length_append, List.length_append, List.length_take, List.length_drop, Array.length_toList, hrs, hzl]
            omega) (by
            rw [e]
            show (_ : List Value).take ((n - j) * 5) = _
            rw [← hnews, List.append_assoc, List.take_append_of_le_length (by rw [List.length_take, Array.length_toList, hrs]; omega), List.take_take, Nat.min_self, hrl, ← hnl, List.take_left])
          rw [e] at this
          exact this
        · have g1 : w.grownBy W1 (some g) := by rw [hW1]; exact ⟨rfl, rfl, rfl, by simp [World.setRow], fun k _ hn => setRow_other w.drew g k row (fun e => hn (by rw [e]))⟩
          have g2 : W1.grownBy W2 (some g) := by rw [hW2]; exact grown_row W1 g _
          exact g1.trans g2)
      have hcl := hcl0
      rw [← hW2] at hcl
      rw [← hW1] at hap
      have HAP := Lib.hid hap
      have hj' : (j : Int) ≤ (n : Int) := by omega
      clear hap hW1 hW2 hcl0 hg1 hrs hrl hrow hone hnd hnews htn hs5 hs ht hg hz0 hz1 hz2 hi hzl hnl H' hB hmx hsrc
      go_enter Tryd.func63, Tryd.ntmps63
      go_wp2_with fail
      go_region_law (refine step_append_run rfl (.tmp 22) (.tmp 25) 28 rfl (.slice (some ⟨g, 0, none⟩) 0 cap) (.slice (some A) (n - j) (cap - j)) rfl rfl _ _ HAP.out ?_)
      go_wp2_with fail
      go_ret
      exact ⟨_, rfl, FIN.out.1, rfl, FIN.out.2⟩
end Wt
end Go.Proofs.YtfkoiehnkelpoaaDoor
