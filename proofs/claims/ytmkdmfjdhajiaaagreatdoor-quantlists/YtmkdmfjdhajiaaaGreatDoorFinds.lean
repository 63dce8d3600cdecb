/-
  THE WALK of QuantFinds.
-/
import Derived.Test.YtmkdmfjdhajiaaaGreatDoorLists
import Derived.Test.YtmkdmfjdhajiaaaGreatDoorKnownK
namespace Go.Proofs.YtmkdmfjdhajiaaaGreatDoor
open Go.RowKit Go.Sort Go.Lib
/-- What the variable mark holds. -/
def Mark (w : World) (m : Amt) : Prop := w.cell? ⟨0, 0, none⟩ = some (.string m.1) ∧ w.cell? ⟨0, 1, none⟩ = some (.int .i64 m.2)
theorem Mark.below {w w' : World} {m : Amt} (h : Mark w m) (hb : Below w.heap.size w w') : Mark w' m := ⟨(hb.cell (block_lt_of_cell h.1)).trans h.1, (hb.cell (block_lt_of_cell h.2)).trans h.2⟩
/-- A call's own copy: append to nil. -/
theorem appA_copy {ops : Array Oper} {rest : List Oper} {o : Oper} {a : Act} {Q : Exit → Act → World → Prop} (hgd : o.guard = none) (s y : Operand)
    (ho : o.op = .call { callee := .builtin .append, args := #[s, y], argTypes := #[22, 22] })
    {w0 : World} {v : Value} {xs : List Amt} (hs : a.eval s = .slice none 0 0) (hv : Amts w0 v xs) (hy : a.eval y = v) (hl : xs.length * 24 ≤ 140737488355328)
    (h : ∀ v' w', OwnA w0.heap.size w' v' xs → Below w0.heap.size w0 w' → wpList Tryz.prog ops Q rest (a.put o.dst v') w') :
    wpList Tryz.prog ops Q (o :: rest) a w0 := by
  obtain ⟨i0, hi, hz0, hz1, hz2⟩ := amt_info
  obtain ⟨ad, cap, rfl, hlc, hcm, hn, hc⟩ := hv
  cases ad with
  | none =>
    obtain rfl := hn rfl
    obtain rfl : xs = [] := by simpa using hlc
    refine wpList_append_own_none hgd s y 22 ho w0.heap.size 36 i0 2 Tryz.underlying22 hi (.slice none 0 0) 0 [] hs (World.ownsRow_nil _ _ _ _) hy ?_
    exact h _ w0 (World.ownsRow_nil _ _ _ _) (Below.refl _ _)
  | some ad =>
    refine wpList_append_own w0 hgd s y 22 ho w0.heap.size 36 i0 _ 2 24 Tryz.underlying22 hi hz0 hz1 hz2 rfl (by decide) (.slice none 0 0) 0 [] hs (World.ownsRow_nil _ _ _ _) ad xs.length cap (cellsA xs) hy (cellsA_length xs) ?_ (cellsA_one xs) (by unfold maxLen; omega) (by omega) (Nat.le_refl _) ?_
    · intro j u hj
      have hj' : j < xs.length * 2 := by
        have := (List.getElem?_eq_some_iff.1 hj).1
        rwa [cellsA_length] at this
      obtain ⟨b, off, e, c0, c1⟩ := hc (j / 2) (by omega)
      cases e
      rw [Addr.add_lit]
      have hat := cellsA_at xs (j / 2) (by omega)
      rcases Nat.mod_two_eq_zero_or_one j with hm | hm
      · have ej : j = j / 2 * 2 := by omega
        rw [← ej] at hat c0
        rw [hat.1] at hj
        rw [← hj]
        exact c0
      · have ej : j = j / 2 * 2 + 1 := by omega
        rw [Nat.add_assoc, ← ej] at c1
        rw [← ej] at hat
        rw [hat.2] at hj
        rw [← hj]
        exact c1
    · intro v' w' h1 h2 _
      refine h v' w' ?_ ((Below.refl _ w0).grown h2 (Nat.le_refl _) (by intro k hk; cases hk))
      show w'.ownsRow _ _ _ _ _ _
      simpa using h1
set_option maxHeartbeats 2000000 in
set_option maxRecDepth 100000 in
theorem behind_any (v : Value) (xs : List Amt) (m : Amt) (w : World) (hv : Amts w v xs) (hm : Mark w m) (hl : (xs.length + 1) * 24 ≤ 140737488355328) :
    Calls Tryz.prog 5 #[v] w fun e w' => ∃ v', e = .returned v' ∧ OwnA w.heap.size w' v' (xs ++ [m]) ∧ Below w.heap.size w w' := by
  have V := Lib.hid hv
  have HM := Lib.hid hm
  obtain ⟨i0, hi, hz, hs, hby⟩ := amt_info
  obtain ⟨mn, mv⟩ := m
  clear hm hv
  go_enter Tryz.func5, Tryz.ntmps5
  go_wp2_with (at_builtin; refine appA_copy rfl _ _ rfl rfl V.out rfl (by omega) ?_)
  intro v1 w1 own1 hb1
  have O1 := Lib.hid own1
  have B1 := Lib.hid hb1
  have m0 := (HM.out.below hb1).1
  have m1 := (HM.out.below hb1).2
  simp only at m0 m1
  clear own1 hb1 HM V
  go_wp2_with (at_builtin; refine wpList_append_own _ rfl _ _ 22 rfl w.heap.size 36 i0 _ 2 24 Tryz.underlying22 hi hz hs hby rfl (by decide) _ xs.length (cellsA xs) rfl ?q0 _ 1 1 [.string mn, .int .i64 mv] rfl rfl (new_two _ _ _ _ _ (by simp)) (two_one _ _) ?q1 hl ?q2 ?_)
  case q0 => exact ownsA_below O1.out ((Below.refl _ w1).alloc (Nat.le_refl _) _)
  case q1 => unfold maxLen; omega
  case q2 => exact Nat.le_trans B1.out.size (by simp)
  intro v2 w2 own2 grown2 _
  have B2 := Lib.hid ((B1.out.alloc B1.out.size _).grown grown2 (Nat.le_trans B1.out.size (by simp)) (fun k hk => (World.ownsRow.lt O1.out k hk).1))
  have O2 : Hid (OwnA w.heap.size w2 v2 (xs ++ [(mn, mv)])) := Lib.hid (by
    show w2.ownsRow _ _ _ _ _ _
    rw [cellsA_app, List.length_append]
    exact own2)
  clear own2 grown2 O1 B1
  go_wp2_with fail
  go_ret
  exact ⟨v2, rfl, O2.out, B2.out⟩
set_option maxHeartbeats 4000000 in
set_option maxRecDepth 100000 in
theorem same_yes (v v' : Value) (xs : List Amt) (w : World) (hv : Amts w v xs) (hv' : Amts w v' xs) :
    Calls Tryz.prog 11 #[v, v'] w fun e w' => e = .returned (.bool true) ∧ ∃ n, w' = w.drewN n := by
  have V := Lib.hid (And.intro hv hv')
  obtain ⟨a, cap, rfl, hlc, hcm⟩ := hv.len
  obtain ⟨a', cap', rfl, hlc', hcm'⟩ := hv'.len
  unfold maxLen at hcm hcm'
  clear hv hv'
  go_enter Tryz.func11, Tryz.ntmps11
  go_wp2_with fail
  go_loopg [5] xs.length (fun g si wr => ∃ (k : Nat), k ≤ xs.length ∧ g = xs.length - k ∧ si = .int .i64 k ∧ ∃ n, wr = w.drewN n)
  case atStart => exact ⟨0, Nat.zero_le _, rfl, rfl, 0, rfl⟩
  case round =>
    obtain ⟨k, hk, hg, rfl, n, rfl⟩ := hrel
    have R := Lib.hid hg
    clear hg
    by_cases hlt : k < xs.length
    · obtain ⟨b, off, rfl, p0, p1⟩ := V.out.1.at k hlt
      obtain ⟨b', off', rfl, q0, q1⟩ := V.out.2.at k hlt
      obtain ⟨x, hx⟩ : ∃ x, x = xs.getD k (⟨#[]⟩, 0) := ⟨_, rfl⟩
      rw [← hx] at p0 q0 p1 q1
      obtain ⟨xn, xv⟩ := x
      simp only at p0 p1 q0 q1
      clear hx
      have hlt' : (k : Int) < (xs.length : Int) := by omega
      go_wp2_with fail
      go_quiet (fail)
      go_wp2_with fail
      go_roundg (xs.length - (k + 1))
      case measure => have := R.out; omega
      case rel => exact ⟨k + 1, by omega, rfl, by go_num, _, rfl⟩
    · go_wp2_with fail
      go_ret
      exact ⟨rfl, _, rfl⟩
theorem Amts.drewN {w : World} {v : Value} {xs : List Amt} (H : Amts w v xs) (n : Nat) : Amts (w.drewN n) v xs := H.below ⟨rfl, rfl, rfl, Nat.le_refl _, fun _ _ => rfl⟩
set_option maxHeartbeats 4000000 in
set_option maxRecDepth 100000 in
theorem untouched_yes (g cap : Nat) (v : Value) (xs : List Amt) (m : Amt) (w : World) (hc : Amts w (.slice (some ⟨g, 0, none⟩) (xs.length + 1) cap) (xs ++ [m])) (hv : Amts w v xs) (hm : Mark w m) :
    Calls Tryz.prog 8 #[.slice (some ⟨g, 0, none⟩) (xs.length + 1) cap, v] w fun e w' => e = .returned (.bool true) ∧ Below w.heap.size w w' := by
  have S : Hid (∀ n, Calls Tryz.prog 11 #[.slice (some ⟨g, 0, none⟩) xs.length cap, v] (w.drewN n) fun e w'' => e = .returned (.bool true) ∧ ∃ m, w'' = w.drewN m) := Lib.hid fun n => Calls.quiet_of (same_yes _ _ xs _ ((hc.front (by simp)).drewN n) (hv.drewN n))
  have hcl := hc.len
  obtain ⟨a, capv, rfl, hlc, hcm⟩ := hv.len
  obtain ⟨ac, cc, ec, hl1, hl2⟩ := hcl
  simp only [Value.slice.injEq] at ec
  obtain ⟨-, -, rfl⟩ := ec
  rw [List.length_append, List.length_singleton] at hl1
  unfold maxLen at hcm hl2
  obtain ⟨b, off, eb, c0, c1⟩ := hc.at xs.length (by simp)
  cases eb
  rw [show (xs ++ [m]).getD xs.length (⟨#[]⟩, 0) = m by simp [List.getD]] at c0 c1
  rw [Nat.zero_add] at c0 c1
  obtain ⟨m0, m1⟩ := hm
  obtain ⟨mn, mv⟩ := m
  simp only at c0 c1 m0 m1
  clear hc hv
  have hwr : wrap64 ((xs.length : Int) + 1) = (xs.length : Int) + 1 := by unfold wrap64; omega
  go_enter Tryz.func8, Tryz.ntmps8
  go_wp2_with fail
  go_quiet (exact S.out _)
  go_wp2_with fail
  go_ret
  exact ⟨rfl, ⟨rfl, rfl, rfl, Nat.le_refl _, fun _ _ => rfl⟩⟩
end Go.Proofs.YtmkdmfjdhajiaaaGreatDoor
