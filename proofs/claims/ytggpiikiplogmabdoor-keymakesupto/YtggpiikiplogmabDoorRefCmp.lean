/-
  roomy, intact; the document's Compare.
-/
import Derived.Test.YtggpiikiplogmabDoorCmp
namespace Go.Proofs.YtggpiikiplogmabDoor
open Go.RowKit
def markT : ByteArray := ⟨#[109, 97, 114, 107]⟩
theorem app_marks {ops : Array Oper} {rest : List Oper} {o : Oper} {a : Act} {Q : Exit → Act → World → Prop} (hgd : o.guard = none) (s y : Operand)
    (ho : o.op = .call { callee := .builtin .append, args := #[s, y], argTypes := #[22, 22] })
    {B : Nat} {w0 : World} {v : Value} {ts : List ByteArray} (hs : a.eval s = v) (hown : OwnS B w0 v ts) (hB : B ≤ w0.heap.size) (t u : ByteArray)
    (hy : a.eval y = .slice (some ⟨w0.heap.size, 0, none⟩) 2 2) (hl : (ts.length + 2) * 16 ≤ 140737488355328)
    (h : ∀ v' w', OwnS B w' v' (ts ++ [t, u]) → w0.grownBy w' v.ownBlock → wpList Tryd.prog ops Q rest (a.put o.dst v') w') :
    wpList Tryd.prog ops Q (o :: rest) a (w0.alloc (.cells #[.string t, .string u] 9)) := by
  obtain ⟨i0, hi, hz0, hz1, hz2⟩ := info_parts info_str
  refine wpList_append_own_at _ hgd s y 22 ho B 9 i0 _ 1 16 Tryd.underlying22 hi hz0 hz1 hz2 rfl (by decide) v ts.length (cellsS ts) hs (World.ownsRow.alloc hown _) ⟨w0.heap.size, 0, none⟩ 2 2 [.string t, .string u] hy rfl ?_ ?_ (by unfold maxLen; omega) (by omega) (by simp; omega) ?_
  · intro j u hj
    rw [add_plain, Nat.zero_add, World.cell?_alloc_new, ← Array.getElem?_toList]; exact hj
  · intro v hv; simp only [List.mem_cons, List.not_mem_nil, or_false] at hv; rcases hv with rfl | rfl <;> rfl
  · intro v' w' h1 h2 _ _
    refine h v' w' ?_ (grown_alloc h2)
    show w'.ownsRow _ _ _ _ _ _
    have e : cellsS (ts ++ [t, u]) = cellsS ts ++ [.string t, .string u] := by simp [cellsS]
    rw [e, List.length_append]; exact h1
set_option maxHeartbeats 2000000 in
set_option maxRecDepth 100000 in
theorem roomy_any (v : Value) (ts : List ByteArray) (w : World) (hv : Strs w v ts) (hl : ts.length ≤ 8796093021952) :
    Calls Tryd.prog 12 #[v] w fun e w' => ∃ v', e = .returned v' ∧ OwnS w.heap.size w' v' (ts ++ [markT, markT]) ∧ Below w.heap.size w w' := by
  have OW := Lib.hid (own_any v ts w hv hl)
  clear hv
  go_enter Tryd.func12, Tryd.ntmps12
  go_wp2_with fail
  refine OW.out.mono ?_
  rintro r w1 ⟨v1, rfl, o1, hb⟩
  have B1 := Lib.hid hb
  have O1 := Lib.hid o1
  clear hb o1
  go_wp2_with (at_builtin; refine app_marks rfl _ _ rfl rfl O1.out B1.out.size markT markT rfl (by omega) ?_)
  intro v' w' o2 h2
  have O2 := Lib.hid o2
  have B2 := Lib.hid (B1.out.grown h2 B1.out.size (fun k hk => (O1.out.lt k hk).1))
  clear o2 h2
  go_wp2_with fail
  go_ret
  exact ⟨_, rfl, O2.out, B2.out⟩
set_option maxHeartbeats 2000000 in
set_option maxRecDepth 100000 in
theorem intact_yes (v v' : Value) (ts : List ByteArray) (w : World) (hv : Strs w v (ts ++ [markT, markT])) (hv' : Strs w v' ts) (hl : ts.length ≤ 8796093021952) :
    Calls Tryd.prog 15 #[v, v'] w fun e w' => e = .returned (.bool true) ∧ Below w.heap.size w w' := by
  have V := Lib.hid hv
  have RM := Lib.hid (roomy_any v' ts w hv' hl)
  clear hv hv'
  go_enter Tryd.func15, Tryd.ntmps15
  go_wp2_with fail
  refine RM.out.mono ?_
  rintro r w1 ⟨v1, rfl, o1, hb⟩
  have B1 := Lib.hid hb
  have S1 := Lib.hid (And.intro (V.out.below hb) o1.strs)
  clear hb o1
  have SM := Lib.hid (same_any v v1 _ _ w1 S1.out.1 S1.out.2)
  rw [decide_eq_true (rfl : ts ++ [markT, markT] = ts ++ [markT, markT])] at SM
  go_wp2_with fail
  refine SM.out.mono ?_
  rintro r w2 ⟨rfl, hb⟩
  have B2 := Lib.hid (B1.out.trans (hb.mono B1.out.size))
  clear hb
  go_wp2_with fail
  go_ret
  exact ⟨rfl, B2.out⟩
set_option maxHeartbeats 4000000 in
set_option maxRecDepth 100000 in
theorem refCompare_any (v v' : Value) (ts us : List ByteArray) (w : World) (hv : Strs w v ts) (hv' : Strs w v' us) :
    Calls Tryd.prog 14 #[v, v'] w fun e w' => e = .returned (.int .i64 (cmpR ts us)) ∧ Below w.heap.size w w' := by
  have V : Aside (Strs w v ts ∧ Strs w v' us) := ⟨hv, hv'⟩
  obtain ⟨a, cap, rfl, hlc, hcm⟩ := hv.len
  obtain ⟨a', cap', rfl, hlc', hcm'⟩ := hv'.len
  unfold maxLen at hcm hcm'
  clear hv hv'
  go_enter Tryd.func14, Tryd.ntmps14
  go_wp2_with fail
  go_loopg [5] ts.length (fun g si wr => ∃ (k : Nat), k ≤ ts.length ∧ k ≤ us.length ∧ g = ts.length - k ∧ si = .int .i64 k ∧ ts.take k = us.take k ∧ Below w.heap.size w wr)
  case atStart => exact ⟨0, Nat.zero_le _, Nat.zero_le _, rfl, rfl, rfl, Below.refl _ _⟩
  case round =>
    obtain ⟨k, hk, hk2, hg, rfl, hq, hb⟩ := hrel
    have R : Aside (gk = ts.length - k ∧ ts.take k = us.take k ∧ Below w.heap.size w wr) := ⟨hg, hq, hb⟩
    clear hg hb hq
    by_cases hlt : k < ts.length
    · have hlt' : (k : Int) < (ts.length : Int) := by omega
      have g1 : decide ((k : Int) < (ts.length : Int)) = true := decide_eq_true hlt'
      by_cases hlu : k < us.length
      · obtain ⟨b, off, rfl, p0⟩ := (V.out.1.below R.out.2.2).at k hlt
        obtain ⟨b', off', rfl, q0⟩ := (V.out.2.below R.out.2.2).at k hlu
        obtain ⟨t, ht⟩ : ∃ t, t = ts.getD k ⟨#[]⟩ := ⟨_, rfl⟩
        obtain ⟨u, hu⟩ : ∃ t, t = us.getD k ⟨#[]⟩ := ⟨_, rfl⟩
        rw [← ht] at p0
        rw [← hu] at q0
        have C : Aside (t = ts.getD k ⟨#[]⟩ ∧ u = us.getD k ⟨#[]⟩) := ⟨ht, hu⟩
        clear ht hu
        have hlt2 : (k : Int) < (us.length : Int) := by omega
        have g2 : decide ((k : Int) < (us.length : Int)) = true := decide_eq_true hlt2
        have A1 : Aside (aheadB ts us = (if t = u then aheadB (ts.drop (k + 1)) (us.drop (k + 1)) else bl t.data.toList u.data.toList) ∧ aheadB us ts = (if u = t then aheadB (us.drop (k + 1)) (ts.drop (k + 1)) else bl u.data.toList t.data.toList)) := by
          constructor
          · rw [ahead_at ts us k hk hk2 R.out.2.1, drop_at ts k ⟨#[]⟩ hlt, drop_at us k ⟨#[]⟩ hlu, ← C.out.1, ← C.out.2, aheadB]
          · rw [ahead_at us ts k hk2 hk R.out.2.1.symm, drop_at ts k ⟨#[]⟩ hlt, drop_at us k ⟨#[]⟩ hlu, ← C.out.1, ← C.out.2, aheadB]
        by_cases e : t = u
        · have e1 := eqB t u e
          have l1 : Op.bytesLess t.toList u.toList = false := by rw [e, list_of_bytes]; exact bl_refl _
          have E : Aside (t = u) := e
          have p1 : (wr.drewN 1).cell? ⟨b, off + k, none⟩ = some (.string t) := by rw [World.cell?_drewN]; exact p0
          have q1 : (wr.drewN 1).cell? ⟨b', off' + k, none⟩ = some (.string u) := by rw [World.cell?_drewN]; exact q0
          clear e
          go_wp2_with fail
          go_quiet (fail)
          go_wp2_with fail
          go_quiet (fail)
          go_wp2_with fail
          go_roundg (ts.length - (k + 1))
          case measure => have := R.out.1; omega
          case rel => exact ⟨k + 1, by omega, by omega, rfl, by go_num, take_both hlt hlu R.out.2.1 (by rw [← C.out.1, ← C.out.2]; exact E.out), R.out.2.2.trans ⟨rfl, rfl, rfl, Nat.le_refl _, fun _ _ => rfl⟩⟩
        · have e1 := neB t u e
          cases g : bl t.data.toList u.data.toList with
          | true =>
            have l1 : Op.bytesLess t.toList u.toList = true := by rw [list_of_bytes, list_of_bytes]; exact g
            have hr : Hid (cmpR ts us = -1) := Lib.hid (by unfold cmpR; rw [A1.out.1, if_neg e, if_pos g])
            clear e g
            go_wp2_with fail
            go_quiet (fail)
            go_wp2_with fail
            go_ret
            exact ⟨by rw [hr.out]; rfl, R.out.2.2.trans ⟨rfl, rfl, rfl, Nat.le_refl _, fun _ _ => rfl⟩⟩
          | false =>
            have l1 : Op.bytesLess t.toList u.toList = false := by rw [list_of_bytes, list_of_bytes]; exact g
            have hr : Hid (cmpR ts us = 1) := Lib.hid (by
              refine cmpR_one ts us (by rw [A1.out.1, if_neg e, g]) ?_
              rw [A1.out.2, if_neg (fun h => e h.symm)]
              cases g2 : bl u.data.toList t.data.toList with
              | true => rfl
              | false => exact absurd (bl_total _ _ g g2) (data_ne e))
            have p1 : (wr.drewN 1).cell? ⟨b, off + k, none⟩ = some (.string t) := by rw [World.cell?_drewN]; exact p0
            have q1 : (wr.drewN 1).cell? ⟨b', off' + k, none⟩ = some (.string u) := by rw [World.cell?_drewN]; exact q0
            clear e g
            go_wp2_with fail
            go_quiet (fail)
            go_wp2_with fail
            go_quiet (fail)
            go_wp2_with fail
            go_ret
            exact ⟨by rw [hr.out]; rfl, R.out.2.2.trans ⟨rfl, rfl, rfl, Nat.le_refl _, fun _ _ => rfl⟩⟩
      · have g2 : decide ((k : Int) < (us.length : Int)) = false := decide_eq_false (by omega)
        have g3 : decide ((ts.length : Int) < (us.length : Int)) = false := decide_eq_false (by omega)
        have g4 : decide ((ts.length : Int) > (us.length : Int)) = true := decide_eq_true (by omega)
        have hr : Hid (cmpR ts us = 1) := Lib.hid (by
          have hu : us.drop k = [] := List.drop_eq_nil_of_le (by omega)
          refine cmpR_one ts us ?_ ?_
          · rw [ahead_at ts us k hk hk2 R.out.2.1, hu, drop_at ts k ⟨#[]⟩ hlt]; rfl
          · rw [ahead_at us ts k hk2 hk R.out.2.1.symm, hu, drop_at ts k ⟨#[]⟩ hlt]; rfl)
        go_wp2_with fail
        go_ret
        exact ⟨by rw [hr.out]; rfl, R.out.2.2⟩
    · have ek : k = ts.length := by omega
      have g1 : decide ((k : Int) < (ts.length : Int)) = false := decide_eq_false (by omega)
      have hd : ts.drop k = [] := List.drop_eq_nil_of_le (by omega)
      by_cases hlu : ts.length < us.length
      · have hr : Hid (cmpR ts us = -1) := Lib.hid (by
          unfold cmpR
          rw [ahead_at ts us k hk hk2 R.out.2.1, hd, drop_at us k ⟨#[]⟩ (by omega)]; rfl)
        have g3 : decide ((ts.length : Int) < (us.length : Int)) = true := decide_eq_true (by omega)
        clear hd ek
        go_wp2_with fail
        go_ret
        exact ⟨by rw [hr.out]; rfl, R.out.2.2⟩
      · have hr : Hid (cmpR ts us = 0) := Lib.hid (by
          have h := R.out.2.1
          rw [List.take_of_length_le (by omega), List.take_of_length_le (by omega)] at h
          rw [h]
          exact cmpR_same us)
        have g3 : decide ((ts.length : Int) < (us.length : Int)) = false := decide_eq_false (by omega)
        have g4 : decide ((ts.length : Int) > (us.length : Int)) = false := decide_eq_false (by omega)
        clear hd ek
        go_wp2_with fail
        go_ret
        exact ⟨by rw [hr.out]; rfl, R.out.2.2⟩
end Go.Proofs.YtggpiikiplogmabDoor
