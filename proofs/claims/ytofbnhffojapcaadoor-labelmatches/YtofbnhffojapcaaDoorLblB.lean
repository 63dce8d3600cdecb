/-
  Labels copied; the law's value.
-/
import Derived.Test.YtofbnhffojapcaaDoorMatchB
namespace Go.Proofs.YtofbnhffojapcaaDoor
open Go.RowKit Go.Sort
def cellsL (ls : List Lbl) : List Value := ls.flatMap fun x => [.string x.1, .string x.2]
theorem cellsL_length (ls : List Lbl) : (cellsL ls).length = ls.length * 2 := by
  induction ls with
  | nil => rfl
  | cons x r ih =>
    show (_ :: _ :: cellsL r).length = _
    rw [List.length_cons, List.length_cons, ih, List.length_cons]
    omega
theorem cellsL_at (ls : List Lbl) (k : Nat) (h : k < ls.length) : (cellsL ls)[k * 2]? = some (.string (ls.getD k dL).1) ∧ (cellsL ls)[k * 2 + 1]? = some (.string (ls.getD k dL).2) := by
  induction ls generalizing k with
  | nil => simp at h
  | cons x r ih =>
    cases k with
    | zero => exact ⟨rfl, rfl⟩
    | succ k =>
      have := ih k (by simpa using h)
      show (_ :: _ :: cellsL r)[_]? = _ ∧ (_ :: _ :: cellsL r)[_]? = _
      rw [show (k + 1) * 2 = k * 2 + 1 + 1 by omega, show k * 2 + 1 + 1 + 1 = k * 2 + 1 + 1 + 1 from rfl]
      exact this
def OwnL (B : Nat) (w : World) (v : Value) (ls : List Lbl) : Prop := w.ownsRow B 52 2 v ls.length (cellsL ls)
theorem OwnL.lbls {B : Nat} {w : World} {v : Value} {ls : List Lbl} (H : OwnL B w v ls) : Lbls w v ls := by
  obtain ⟨_, ⟨hv, hn⟩ | ⟨g, cap, cur, hv, hb, hg, hn, hm, hs, ht⟩⟩ := H
  · exact ⟨none, 0, by rw [hv, hn], by omega, by decide, fun _ => rfl, fun k hk => by omega⟩
  · refine ⟨_, cap, hv, hn, hm, (fun h => by cases h), fun k hk => ⟨g, 0, rfl, ?_, ?_⟩⟩
    · rw [cell_of_row w g _ cur _ _ hg, Nat.zero_add, ← Array.getElem?_toList]
      have h1 : (cur.toList.take (ls.length * 2))[k * 2]? = cur.toList[k * 2]? := by rw [List.getElem?_take_of_lt (by omega)]
      rw [← h1, ht]
      exact (cellsL_at ls k hk).1
    · rw [cell_of_row w g _ cur _ _ hg, Nat.zero_add, ← Array.getElem?_toList]
      have h1 : (cur.toList.take (ls.length * 2))[k * 2 + 1]? = cur.toList[k * 2 + 1]? := by rw [List.getElem?_take_of_lt (by omega)]
      rw [← h1, ht]
      exact (cellsL_at ls k hk).2
theorem info_lbl : (Tryd.prog.info? 52).map (fun i => (i.zero, i.size, i.bytes)) = some (some (.agg #[.string ⟨#[]⟩, .string ⟨#[]⟩]), 2, 32) := by kernel_rfl
/-- A call's own copy: append to nil. -/
theorem app_lbls {ops : Array Oper} {rest : List Oper} {o : Oper} {a : Act} {Q : Exit → Act → World → Prop} (hgd : o.guard = none) (s y : Operand)
    (ho : o.op = .call { callee := .builtin .append, args := #[s, y], argTypes := #[37, 37] })
    {w0 : World} {v : Value} {ls : List Lbl} (hs : a.eval s = .slice none 0 0) (hv : Lbls w0 v ls) (hy : a.eval y = v) (hl : ls.length * 32 ≤ 140737488355328)
    (h : ∀ v' w', OwnL w0.heap.size w' v' ls → Below w0.heap.size w0 w' → wpList Tryd.prog ops Q rest (a.put o.dst v') w') :
    wpList Tryd.prog ops Q (o :: rest) a w0 := by
  obtain ⟨i0, hi, hz0, hz1, hz2⟩ := info_parts info_lbl
  obtain ⟨ad, cap, rfl, hlc, hcm, hn, hc⟩ := hv
  cases ad with
  | none =>
    obtain rfl := hn rfl
    obtain rfl : ls = [] := by simpa using hlc
    refine wpList_append_own_none hgd s y 37 ho w0.heap.size 52 i0 2 Tryd.underlying37 hi (.slice none 0 0) 0 [] hs (World.ownsRow_nil _ _ _ _) hy ?_
    exact h _ w0 (World.ownsRow_nil _ _ _ _) (Below.refl _ _)
  | some ad =>
    refine wpList_append_own_at w0 hgd s y 37 ho w0.heap.size 52 i0 _ 2 32 Tryd.underlying37 hi hz0 hz1 hz2 rfl (by decide) (.slice none 0 0) 0 [] hs (World.ownsRow_nil _ _ _ _) ad ls.length cap (cellsL ls) hy (cellsL_length ls) ?_ ?_ (by unfold maxLen; omega) (by omega) (Nat.le_refl _) ?_
    · intro j u hj
      have hj' : j < ls.length * 2 := by
        have := (List.getElem?_eq_some_iff.1 hj).1
        rw [cellsL_length] at this
        exact this
      obtain ⟨b, off, e, hc0, hc1⟩ := hc (j / 2) (by omega)
      cases e
      rw [add_plain]
      have hat := cellsL_at ls (j / 2) (by omega)
      rcases Nat.mod_two_eq_zero_or_one j with h2 | h2
      · have ej : j = j / 2 * 2 := by omega
        rw [ej] at hj ⊢
        rw [hat.1] at hj
        rw [← hj]
        exact hc0
      · have ej : j = j / 2 * 2 + 1 := by omega
        rw [ej] at hj ⊢
        rw [hat.2] at hj
        rw [← hj]
        exact hc1
    · intro u hu
      unfold cellsL at hu
      rw [List.mem_flatMap] at hu
      obtain ⟨x, _, hu⟩ := hu
      simp only [List.mem_cons, List.not_mem_nil, or_false] at hu
      rcases hu with rfl | rfl <;> rfl
    · intro v' w' h1 h2 _ _
      refine h v' w' ?_ ((Below.refl _ w0).grown h2 (Nat.le_refl _) (by intro k hk; cases hk))
      show w'.ownsRow _ _ _ _ _ _
      simpa using h1
def valR (ls : List Lbl) (key : List UInt8) : ByteArray × Bool := match valOf ls key with
  | some v => (v, true)
  | none => (⟨#[]⟩, false)
set_option maxHeartbeats 4000000 in
set_option maxRecDepth 100000 in
theorem lawValue_any (v : Value) (ls : List Lbl) (key : ByteArray) (w : World) (hv : Lbls w v ls) :
    Calls Tryd.prog 18 #[v, .string key] w fun e w' => e = .returned (.tuple #[.string (valR ls key.data.toList).1, .bool (valR ls key.data.toList).2]) ∧ Below w.heap.size w w' := by
  have V := Lib.hid hv
  obtain ⟨a, cap, rfl, hlc, hcm⟩ := hv.len
  unfold maxLen at hcm
  obtain ⟨n, hn⟩ : ∃ n, n = ls.length := ⟨_, rfl⟩
  rw [← hn] at hlc V ⊢
  have HN := Lib.hid hn
  clear hv hn
  go_enter Tryd.func18, Tryd.ntmps18
  go_wp2_with fail
  go_loopg [6] n (fun g si wr => ∃ (k : Nat), k ≤ n ∧ g = n - k ∧ si = .int .i64 k ∧ (∀ j, j < k → (ls.getD j dL).1.data.toList ≠ key.data.toList) ∧ Below w.heap.size w wr)
  case atStart => exact ⟨0, Nat.zero_le _, rfl, rfl, fun j hj => absurd hj (Nat.not_lt_zero _), Below.refl _ _⟩
  case round =>
    obtain ⟨k, hk, hg, rfl, hpr, hb⟩ := hrel
    have R : Aside (gk = n - k ∧ (∀ j, j < k → (ls.getD j dL).1.data.toList ≠ key.data.toList) ∧ Below w.heap.size w wr) := ⟨hg, hpr, hb⟩
    clear hg hpr hb
    by_cases hlt : k < n
    · have hlt' : (k : Int) < (n : Int) := by omega
      obtain ⟨b, off, rfl, c0, c1⟩ := (V.out.below R.out.2.2).at k (by rw [← HN.out]; exact hlt)
      obtain ⟨x, hx⟩ : ∃ x, x = ls.getD k dL := ⟨_, rfl⟩
      have c0' : wr.cell? ⟨b, off + k * 2, none⟩ = some (.string x.1) := by rw [hx]; exact c0
      have c1' : wr.cell? ⟨b, off + k * 2 + 1, none⟩ = some (.string x.2) := by rw [hx]; exact c1
      have XX := Lib.hid hx
      obtain ⟨xk, xv⟩ := x
      simp only at c0' c1'
      clear c0 c1 hx
      by_cases e : xk.data.toList = key.data.toList
      · have ge : (xk.toList == key.toList) = true := by rw [list_of_bytes, list_of_bytes, e]; simp
        have hr : Hid (valR ls key.data.toList = (xv, true)) := Lib.hid (by
          unfold valR
          rw [valOf_first k (by rw [← HN.out]; exact hlt) (by rw [← XX.out]; exact e) R.out.2.1, ← XX.out])
        clear e
        go_wp2_with fail
        go_ret2
        exact ⟨by rw [hr.out]; rfl, R.out.2.2⟩
      · have ge : (xk.toList == key.toList) = false := by rw [list_of_bytes, list_of_bytes, beq_eq_false_iff_ne]; exact e
        have E := Lib.hid e
        clear e
        go_wp2_with fail
        go_roundg (n - (k + 1))
        case measure => have := R.out.1; omega
        case rel => exact ⟨k + 1, by omega, rfl, by go_num, fun j hj => by
          rcases Nat.lt_or_ge j k with h | h
          · exact R.out.2.1 j h
          · obtain rfl : j = k := by omega
            rw [← XX.out]
            exact E.out, R.out.2.2⟩
    · have hge : decide ((k : Int) < (n : Int)) = false := decide_eq_false (by omega)
      have hr : Hid (valR ls key.data.toList = (⟨#[]⟩, false)) := Lib.hid (by
        unfold valR
        rw [valOf_none fun y hy => by
          obtain ⟨j, hj, e⟩ := mem_get hy
          rw [← e]
          exact R.out.2.1 j (by have := HN.out; omega)])
      go_wp2_with fail
      go_ret2
      exact ⟨by rw [hr.out]; rfl, R.out.2.2⟩
end Go.Proofs.YtofbnhffojapcaaDoor
