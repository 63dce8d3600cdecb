/-
  TEXTS: slices that hold them; sameTexts; one text more; a copy.
-/
import Derived.Test.YtodfmnbfbndkhaaGreatDoorLNm
import Derived.OwnWalk
import Derived.Maps.AppendAt
import Derived.Laws.AppendOwnNone
namespace Go.Proofs.YtodfmnbfbndkhaaGreatDoor.L
open Go.RowKit
theorem add_plain (b off j : Nat) : (⟨b, off, none⟩ : Addr).add j = ⟨b, off + j, none⟩ := by unfold Addr.add; split <;> simp_all
theorem grown_alloc {w w' : World} {o : Obj} {row : Option Nat} (h : (w.alloc o).grownBy w' row) : w.grownBy w' row :=
  ⟨h.os, h.tape, h.output, Nat.le_trans (by simp) h.size, fun k hk hr => (h.block k (by simp; omega) hr).trans (Below.heap_alloc w o k hk)⟩
/-- The slice v holds the texts ts. -/
def Strs (w : World) (v : Value) (ts : List ByteArray) : Prop :=
  ∃ a cap, v = .slice a ts.length cap ∧ ts.length ≤ cap ∧ cap ≤ maxLen ∧ (a = none → cap = 0) ∧ (∀ k, k < ts.length → ∃ b off, a = some ⟨b, off, none⟩ ∧ w.cell? ⟨b, off + k, none⟩ = some (.string (ts.getD k ⟨#[]⟩)))
theorem Strs.below {w w' : World} {v : Value} {ts : List ByteArray} (H : Strs w v ts) (hb : Below w.heap.size w w') : Strs w' v ts := by
  obtain ⟨a, cap, e, h1, h2, h0, h3⟩ := H
  refine ⟨a, cap, e, h1, h2, h0, fun k hk => ?_⟩
  obtain ⟨b, off, ea, hc⟩ := h3 k hk
  exact ⟨b, off, ea, by rw [hb.cell (p := ⟨b, off + k, none⟩) (block_lt_of_cell hc)]; exact hc⟩
theorem Strs.len {w : World} {v : Value} {ts : List ByteArray} (H : Strs w v ts) : ∃ a cap, v = .slice a ts.length cap ∧ ts.length ≤ cap ∧ cap ≤ maxLen := by
  obtain ⟨a, cap, h, h1, h2, _⟩ := H; exact ⟨a, cap, h, h1, h2⟩
theorem Strs.at {w : World} {a : Option Addr} {n cap : Nat} {ts : List ByteArray} (H : Strs w (.slice a n cap) ts) (k : Nat) (hk : k < ts.length) : ∃ b off, a = some ⟨b, off, none⟩ ∧ w.cell? ⟨b, off + k, none⟩ = some (.string (ts.getD k ⟨#[]⟩)) := by
  obtain ⟨a', cap', e', _, _, _, hc⟩ := H
  simp only [Value.slice.injEq] at e'
  obtain ⟨rfl, rfl, rfl⟩ := e'
  exact hc k hk
theorem info_str : (Tryz.prog.info? 9).map (fun i => (i.zero, i.size, i.bytes)) = some (some (.string ⟨#[]⟩), 1, 16) := by kernel_rfl
def cellsS (ts : List ByteArray) : List Value := ts.map .string
theorem cellsS_at (ts : List ByteArray) (k : Nat) (h : k < ts.length) : (cellsS ts)[k]? = some (.string (ts.getD k ⟨#[]⟩)) := by simp [cellsS, h]
/-- The slice v belongs to the call alone and holds the texts ts. -/
def OwnS (B : Nat) (w : World) (v : Value) (ts : List ByteArray) : Prop := w.ownsRow B 9 1 v ts.length (cellsS ts)
theorem OwnS.strs {B : Nat} {w : World} {v : Value} {ts : List ByteArray} (H : OwnS B w v ts) : Strs w v ts := by
  obtain ⟨_, ⟨hv, hn⟩ | ⟨g, cap, cur, hv, hb, hg, hn, hm, hs, ht⟩⟩ := H
  · exact ⟨none, 0, by rw [hv, hn], by omega, by decide, fun _ => rfl, fun k hk => by omega⟩
  · refine ⟨_, cap, hv, hn, hm, (fun h => by cases h), fun k hk => ⟨g, 0, rfl, ?_⟩⟩
    rw [cell_of_row w g _ cur _ _ hg, Nat.zero_add, ← Array.getElem?_toList]
    have h1 : (cur.toList.take (ts.length * 1))[k]? = cur.toList[k]? := by rw [List.getElem?_take_of_lt (by omega)]
    rw [← h1, ht, cellsS_at ts k hk]
theorem OwnS.below {B : Nat} {w w' : World} {v : Value} {ts : List ByteArray} (H : OwnS B w v ts) (hb : Below w.heap.size w w') : OwnS B w' v ts := by
  obtain ⟨h1, h | ⟨g, cap, cur, hv, hB, hg, hr⟩⟩ := H
  · exact ⟨h1, .inl h⟩
  · have hlt : g < w.heap.size := by
      rcases Nat.lt_or_ge g w.heap.size with h | h
      · exact h
      · rw [Array.getElem?_eq_none h] at hg; simp at hg
    exact ⟨h1, .inr ⟨g, cap, cur, hv, hB, by rw [hb.block g hlt]; exact hg, hr⟩⟩
theorem OwnS.lt {B : Nat} {w : World} {v : Value} {l : List ByteArray} (h : OwnS B w v l) : ∀ k, v.ownBlock = some k → B ≤ k ∧ k < w.heap.size := World.ownsRow.lt h
theorem app_txt {ops : Array Oper} {rest : List Oper} {o : Oper} {a : Act} {Q : Exit → Act → World → Prop} (hgd : o.guard = none) (s y : Operand)
    (ho : o.op = .call { callee := .builtin .append, args := #[s, y], argTypes := #[95, 95] })
    {B : Nat} {w0 : World} {v : Value} {ts : List ByteArray} (hs : a.eval s = v) (hown : OwnS B w0 v ts) (hB : B ≤ w0.heap.size) (t : ByteArray)
    (hy : a.eval y = .slice (some ⟨w0.heap.size, 0, none⟩) 1 1) (hl : (ts.length + 1) * 16 ≤ 140737488355328)
    (h : ∀ v' w', OwnS B w' v' (ts ++ [t]) → w0.grownBy w' v.ownBlock → wpList Tryz.prog ops Q rest (a.put o.dst v') w') :
    wpList Tryz.prog ops Q (o :: rest) a (w0.alloc (.cells #[.string t] 9)) := by
  obtain ⟨i0, hi, hz0, hz1, hz2⟩ := info_parts info_str
  refine wpList_append_own_at _ hgd s y 95 ho B 9 i0 _ 1 16 Tryz.underlying95 hi hz0 hz1 hz2 rfl (by decide) v ts.length (cellsS ts) hs (World.ownsRow.alloc hown _) ⟨w0.heap.size, 0, none⟩ 1 1 [.string t] hy rfl ?_ ?_ (by unfold maxLen; omega) (by omega) (by simp; omega) ?_
  · intro j u hj
    rw [add_plain, Nat.zero_add, World.cell?_alloc_new, ← Array.getElem?_toList]; exact hj
  · intro v hv; simp only [List.mem_cons, List.not_mem_nil, or_false] at hv; rw [hv]; rfl
  · intro v' w' h1 h2 _ _
    refine h v' w' ?_ (grown_alloc h2)
    show w'.ownsRow _ _ _ _ _ _
    have e : cellsS (ts ++ [t]) = cellsS ts ++ [.string t] := by simp [cellsS]
    rw [e, List.length_append]; exact h1

theorem take_one {α : Type} (l : List α) (k : Nat) (d : α) (h : k < l.length) : l.take (k + 1) = l.take k ++ [l.getD k d] := by
  rw [List.take_add_one, List.getElem?_eq_getElem h]
  simp [h]
/-- A call's own copy: append to nil. -/
theorem app_copy {ops : Array Oper} {rest : List Oper} {o : Oper} {a : Act} {Q : Exit → Act → World → Prop} (hgd : o.guard = none) (s y : Operand)
    (ho : o.op = .call { callee := .builtin .append, args := #[s, y], argTypes := #[95, 95] })
    {w0 : World} {v : Value} {ts : List ByteArray} (hs : a.eval s = .slice none 0 0) (hv : Strs w0 v ts) (hy : a.eval y = v) (hl : ts.length * 16 ≤ 140737488355328)
    (h : ∀ v' w', OwnS w0.heap.size w' v' ts → Below w0.heap.size w0 w' → wpList Tryz.prog ops Q rest (a.put o.dst v') w') :
    wpList Tryz.prog ops Q (o :: rest) a w0 := by
  obtain ⟨i0, hi, hz0, hz1, hz2⟩ := info_parts info_str
  obtain ⟨ad, cap, rfl, hlc, hcm, hn, hc⟩ := hv
  cases ad with
  | none =>
    obtain rfl := hn rfl
    obtain rfl : ts = [] := by simpa using hlc
    refine wpList_append_own_none hgd s y 95 ho w0.heap.size 9 i0 1 Tryz.underlying95 hi (.slice none 0 0) 0 [] hs (World.ownsRow_nil _ _ _ _) hy ?_
    exact h _ w0 (World.ownsRow_nil _ _ _ _) (Below.refl _ _)
  | some ad =>
    refine wpList_append_own_at w0 hgd s y 95 ho w0.heap.size 9 i0 _ 1 16 Tryz.underlying95 hi hz0 hz1 hz2 rfl (by decide) (.slice none 0 0) 0 [] hs (World.ownsRow_nil _ _ _ _) ad ts.length cap (cellsS ts) hy (by simp [cellsS]) ?_ ?_ (by unfold maxLen; omega) (by omega) (Nat.le_refl _) ?_
    · intro j u hj
      have hj' : j < ts.length := by
        have := (List.getElem?_eq_some_iff.1 hj).1
        simpa [cellsS] using this
      rw [cellsS_at ts j hj'] at hj
      obtain ⟨b, off, e, hcell⟩ := hc j hj'
      cases e
      rw [add_plain]
      rw [← hj]
      exact hcell
    · intro u hu
      simp only [cellsS, List.mem_map] at hu
      obtain ⟨t, _, rfl⟩ := hu
      rfl
    · intro v' w' h1 h2 _ _
      refine h v' w' ?_ ((Below.refl _ w0).grown h2 (Nat.le_refl _) (by intro k hk; cases hk))
      show w'.ownsRow _ _ _ _ _ _
      simpa using h1
set_option maxHeartbeats 2000000 in
set_option maxRecDepth 100000 in
theorem allNames_any (v : Value) (ts : List ByteArray) (w : World) (hv : Strs w v ts) :
    Calls Tryz.prog 109 #[v] w fun e w' => e = .returned (.bool (ts.all nameB)) ∧ Below w.heap.size w w' := by
  have V : Aside (Strs w v ts) := hv
  obtain ⟨a, cap, rfl, hlc, hcm⟩ := hv.len
  unfold maxLen at hcm
  clear hv
  go_enter Tryz.func109, Tryz.ntmps109
  go_wp2_with fail
  go_loopg [7] ts.length (fun g si wr => ∃ (k : Nat), k ≤ ts.length ∧ g = ts.length - k ∧ si = .int .i64 k ∧ (ts.take k).all nameB = true ∧ Below w.heap.size w wr)
  case atStart => exact ⟨0, Nat.zero_le _, rfl, rfl, rfl, Below.refl _ _⟩
  case round =>
    obtain ⟨k, hk, hg, rfl, ha, hb⟩ := hrel
    have R : Aside (gk = ts.length - k ∧ (ts.take k).all nameB = true ∧ Below w.heap.size w wr) := ⟨hg, ha, hb⟩
    clear hg hb ha
    by_cases hlt : k < ts.length
    · obtain ⟨b, off, rfl, p0⟩ := (V.out.below R.out.2.2).at k hlt
      obtain ⟨t, ht⟩ : ∃ t, t = ts.getD k ⟨#[]⟩ := ⟨_, rfl⟩
      rw [← ht] at p0
      have C : Aside (t = ts.getD k ⟨#[]⟩) := ht
      clear ht
      have hlt' : (k : Int) < (ts.length : Int) := by omega
      have N := Lib.hid (name_any t)
      cases hn : nameB t with
      | true =>
        rw [hn] at N
        go_wp2_with fail
        refine (N.out _).mono ?_
        rintro e w1 ⟨rfl, hb⟩
        have B1 := Lib.hid (R.out.2.2.trans (hb.mono R.out.2.2.size))
        clear hb
        go_wp2_with fail
        go_roundg (ts.length - (k + 1))
        case measure => have := R.out.1; omega
        case rel => exact ⟨k + 1, by omega, rfl, by go_num, by rw [take_one ts k ⟨#[]⟩ hlt, ← C.out, List.all_append, R.out.2.1]; simp [hn], B1.out⟩
      | false =>
        rw [hn] at N
        go_wp2_with fail
        refine (N.out _).mono ?_
        rintro e w1 ⟨rfl, hb⟩
        have B1 := Lib.hid (R.out.2.2.trans (hb.mono R.out.2.2.size))
        clear hb
        go_wp2_with fail
        go_ret
        refine ⟨?_, B1.out⟩
        have : ts.all nameB = false := by
          rw [List.all_eq_false]
          refine ⟨t, ?_, by rw [hn]; exact Bool.false_ne_true⟩
          rw [C.out, List.getD_eq_getElem?_getD, List.getElem?_eq_getElem hlt]
          exact List.getElem_mem hlt
        rw [this]
        rfl
    · go_wp2_with fail
      go_ret
      refine ⟨?_, R.out.2.2⟩
      have := R.out.2.1
      rw [List.take_of_length_le (by omega)] at this
      rw [this]
      rfl
end Go.Proofs.YtodfmnbfbndkhaaGreatDoor.L
