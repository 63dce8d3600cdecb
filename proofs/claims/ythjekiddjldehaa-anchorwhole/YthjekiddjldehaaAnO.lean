/-
  ownFates.
-/
import Derived.Test.YthjekiddjldehaaAuB
import Derived.Test.YthjekiddjldehaaFlA
namespace Go.Proofs.Ythjekiddjldehaa
open Go.RowKit Go.Maps
theorem info_fate : (Try.prog.info? 91).map (fun i => (i.zero, i.size, i.bytes)) = some (some (.agg #[.int .i64 0, .int .i64 0]), 2, 16) := by kernel_rfl
def cellsF (fs : List (Int × Int)) : List Value := fs.flatMap fun x => [.int .i64 x.1, .int .i64 x.2]
theorem cellsF_length (fs : List (Int × Int)) : (cellsF fs).length = fs.length * 2 := by
  induction fs with
  | nil => rfl
  | cons x l ih =>
    have : cellsF (x :: l) = [.int .i64 x.1, .int .i64 x.2] ++ cellsF l := rfl
    rw [this, List.length_append, ih, List.length_cons]
    simp only [List.length_cons, List.length_nil]
    omega
theorem cellsF_at : ∀ (fs : List (Int × Int)) (k i : Nat), k < fs.length → i < 2 → (cellsF fs)[k * 2 + i]? = [Value.int .i64 (fs.getD k (0, 0)).1, .int .i64 (fs.getD k (0, 0)).2][i]?
  | [], k, i, h, _ => by simp at h
  | x :: l, 0, i, _, hi => by
    have : cellsF (x :: l) = [.int .i64 x.1, .int .i64 x.2] ++ cellsF l := rfl
    rw [this, Nat.zero_mul, Nat.zero_add, List.getElem?_append_left (by simpa using hi)]
    rfl
  | x :: l, k + 1, i, h, hi => by
    have : cellsF (x :: l) = [.int .i64 x.1, .int .i64 x.2] ++ cellsF l := rfl
    rw [this, List.getElem?_append_right (by simp only [List.length_cons, List.length_nil]; omega)]
    have e : (k + 1) * 2 + i - [Value.int .i64 x.1, .int .i64 x.2].length = k * 2 + i := by simp only [List.length_cons, List.length_nil]; omega
    rw [e, cellsF_at l k i (by simpa using h) hi]
    rfl
theorem fts_own {B : Nat} {w : World} {v : Value} {fs : List (Int × Int)} (H : w.ownsRow B 91 2 v fs.length (cellsF fs)) : Fts w v fs := by
  obtain ⟨_, ⟨hv, hn⟩ | ⟨g, cap, cur, hv, hb, hg, hn, hm, hs, ht⟩⟩ := H
  · exact ⟨none, 0, by rw [hv, hn], by omega, by decide, fun _ => rfl, fun k hk => by omega⟩
  · refine ⟨_, cap, hv, hn, hm, (fun h => by cases h), fun k hk => ⟨g, 0, rfl, ?_, ?_⟩⟩
    · have := cellsF_at fs k 0 hk (by decide)
      rw [Nat.add_zero] at this
      rw [cell_of_row w g _ cur _ _ hg, Nat.zero_add, ← Array.getElem?_toList, ← List.getElem?_take_of_lt (j := fs.length * 2) (by omega), ht, this]
      rfl
    · have := cellsF_at fs k 1 hk (by decide)
      rw [cell_of_row w g _ cur _ _ hg, Nat.zero_add, ← Array.getElem?_toList, ← List.getElem?_take_of_lt (j := fs.length * 2) (by omega), ht, this]
      rfl
theorem cellsF_app (fs : List (Int × Int)) (x : Int × Int) : cellsF (fs ++ [x]) = cellsF fs ++ [.int .i64 x.1, .int .i64 x.2] := by
  unfold cellsF
  simp [List.flatMap_append]
theorem app_fate {ops : Array Oper} {rest : List Oper} {o : Oper} {a : Act} {Q : Exit → Act → World → Prop} (hgd : o.guard = none) (s x : Operand)
    (ho : o.op = .call { callee := .builtin .append, args := #[s, x], argTypes := #[49, 49] })
    {B : Nat} {w0 : World} {v : Value} {fs : List (Int × Int)} (hs : a.eval s = v) (hown : w0.ownsRow B 91 2 v fs.length (cellsF fs)) (hB : B ≤ w0.heap.size) (p q : Int)
    (hx : a.eval x = .slice (some ⟨w0.heap.size, 0, none⟩) 1 1) (hl : fs.length ≤ 8796093022200)
    (h : ∀ v' w', Hid (w'.ownsRow B 91 2 v' (fs.length + 1) (cellsF (fs ++ [(p, q)])) ∧ w0.grownBy w' v.ownBlock) → wpList Try.prog ops Q rest (a.put o.dst v') w') :
    wpList Try.prog ops Q (o :: rest) a (w0.alloc (.cells #[.int .i64 p, .int .i64 q] 91)) := by
  obtain ⟨i0, hi, hz0, hz1, hz2⟩ := info_parts info_fate
  refine wpList_append_own_at _ hgd s x 49 ho B 91 i0 _ 2 16 Try.underlying49 hi hz0 hz1 hz2 rfl (by decide) v fs.length (cellsF fs) hs (World.ownsRow.alloc hown _) ⟨w0.heap.size, 0, none⟩ 1 1 [.int .i64 p, .int .i64 q] hx rfl ?_ ?_ (by unfold maxLen; omega) (by omega) (by simp; omega) ?_
  · intro j u hj
    rw [add_plain, Nat.zero_add, World.cell?_alloc_new, ← Array.getElem?_toList]; exact hj
  · intro u hu
    simp only [List.mem_cons, List.not_mem_nil, or_false] at hu
    rcases hu with rfl | rfl <;> rfl
  · intro v' w' h1 h2 _ _
    refine h v' w' (Lib.hid ⟨?_, grown_alloc h2⟩)
    rw [cellsF_app]; exact h1
set_option maxRecDepth 100000 in
set_option maxHeartbeats 2000000 in
theorem ownFates_any (v : Value) (fs : List (Int × Int)) (w : World) (hv : Fts w v fs) (hl : fs.length ≤ 8796093022199) :
    Calls Try.prog 22 #[v] w fun e w' => ∃ v', e = .returned v' ∧ w'.ownsRow w.heap.size 91 2 v' fs.length (cellsF fs) ∧ Below w.heap.size w w' := by
  obtain ⟨a, cap, rfl, hlc, hcm, _, hc⟩ := hv
  unfold maxLen at hcm
  obtain ⟨n, hn⟩ : ∃ n, n = fs.length := ⟨_, rfl⟩
  have HC : Hid (∀ k, k < n → ∃ b off, a = some ⟨b, off, none⟩ ∧ w.cell? ⟨b, off + k * 2, none⟩ = some (.int .i64 (fs.getD k (0, 0)).1) ∧ w.cell? ⟨b, off + k * 2 + 1, none⟩ = some (.int .i64 (fs.getD k (0, 0)).2)) := Lib.hid (by rw [hn]; exact hc)
  rw [← hn] at hlc hl ⊢
  have NN := Lib.hid hn
  clear hn hc
  go_enter Try.func22, Try.ntmps22
  go_wp2_with fail
  go_loopg [3, 4] n (fun g sv si wr => ∃ (k : Nat), k ≤ n ∧ g = n - k ∧ si = .int .i64 k ∧ wr.ownsRow w.heap.size 91 2 sv (fs.take k).length (cellsF (fs.take k)) ∧ Below w.heap.size w wr)
  case atStart => exact ⟨0, Nat.zero_le _, rfl, rfl, World.ownsRow_nil _ _ _ _, Below.refl _ _⟩
  case round =>
    obtain ⟨k, hk, hg, rfl, ho, hb⟩ := hrel
    have R := Lib.hid (And.intro hg (And.intro ho hb))
    clear hg ho hb
    by_cases hlt : k < n
    · have hlt' : (k : Int) < (n : Int) := by omega
      obtain ⟨b, off, rfl, d0, d1⟩ := HC.out k hlt
      obtain ⟨f1, hf1⟩ : ∃ f, f = (fs.getD k (0, 0)).1 := ⟨_, rfl⟩
      obtain ⟨f2, hf2⟩ : ∃ f, f = (fs.getD k (0, 0)).2 := ⟨_, rfl⟩
      rw [← hf1] at d0
      rw [← hf2] at d1
      have TK : Hid (fs.take (k + 1) = fs.take k ++ [(f1, f2)]) := Lib.hid (by
        rw [List.take_add_one, List.getElem?_eq_getElem (by rw [← NN.out]; exact hlt), Option.toList_some, hf1, hf2, List.getD_eq_getElem?_getD, List.getElem?_eq_getElem (by rw [← NN.out]; exact hlt), Option.getD_some])
      have c0 : wr.cell? ⟨b, off + k * 2, none⟩ = some (.int .i64 f1) := by rw [R.out.2.2.cell (block_lt_of_cell d0)]; exact d0
      have c1 : wr.cell? ⟨b, off + k * 2 + 1, none⟩ = some (.int .i64 f2) := by rw [R.out.2.2.cell (block_lt_of_cell d1)]; exact d1
      have TL : Hid ((fs.take k).length ≤ 8796093022200) := Lib.hid (by rw [List.length_take]; omega)
      obtain ⟨ts, hts⟩ : ∃ ts, ts = fs.take k := ⟨_, rfl⟩
      rw [← hts] at R TK TL
      clear d0 d1 hf1 hf2 hts
      go_wp2_with (at_builtin; refine app_fate rfl (.tmp 11) (.tmp 16) rfl (B := w.heap.size) (fs := ts) rfl R.out.2.1 R.out.2.2.size f1 f2 rfl TL.out ?_)
      intro v' w' h1
      have R2 : Hid (w'.ownsRow w.heap.size 91 2 v' (fs.take (k + 1)).length (cellsF (fs.take (k + 1))) ∧ Below w.heap.size w w') := Lib.hid ⟨by rw [TK.out, List.length_append]; exact h1.out.1, R.out.2.2.trans ((Below.refl _ _).grown h1.out.2 R.out.2.2.size (fun z hz => (R.out.2.1.lt z hz).1))⟩
      clear h1 c0 c1
      go_wp2_with fail
      go_roundg (n - (k + 1))
      case measure => have := R.out.1; omega
      case rel => exact ⟨k + 1, by omega, rfl, by go_num, R2.out.1, R2.out.2⟩
    · have ek : k = n := by omega
      subst ek
      go_wp2_with fail
      go_ret
      refine ⟨_, rfl, ?_, R.out.2.2⟩
      have := R.out.2.1
      rw [NN.out, List.take_length] at this
      rw [NN.out]
      exact this
end Go.Proofs.Ythjekiddjldehaa
