/-
  Parent, Under: of every text.
-/
import Derived.Test.YtodfmnbfbndkhaaGreatDoorLPathA
namespace Go.Proofs.YtodfmnbfbndkhaaGreatDoor.L
open Go.RowKit
theorem splitE_none {p : ByteArray} (h : splitO p = none) : splitE p = 41 := by unfold splitE; rw [h]; rfl
theorem splitE_some {p : ByteArray} {ts : List ByteArray} (h : splitO p = some ts) : splitE p = 0 := by unfold splitE; rw [h]; rfl
theorem splitT_none {p : ByteArray} (h : splitO p = none) : splitT p = [] := by unfold splitT; rw [h]; rfl
theorem splitT_some {p : ByteArray} {ts : List ByteArray} (h : splitO p = some ts) : splitT p = ts := by unfold splitT; rw [h]; rfl
set_option maxHeartbeats 2000000 in
theorem parent_root (w : World) (hm : HasM w) : Calls Tryz.prog 17 #[.string (pth [])] w fun e w' => e = .returned (.tuple #[.string ⟨#[]⟩, .int .i64 143]) ∧ Below w.heap.size w w' := by
  have PA := Lib.hid (path_any (pth []) w hm)
  rw [show splitE (pth []) = 0 from rfl] at PA
  rw [show pth [] = ⟨#[47]⟩ from rfl] at PA ⊢
  clear hm
  go_enter Tryz.func17, Tryz.ntmps17
  go_wp2_with fail
  refine PA.out.mono ?_
  rintro e w1 ⟨rfl, hb⟩
  have B1 := Lib.hid hb
  clear hb PA
  go_wp2_with fail
  go_ret2
  exact ⟨rfl, B1.out⟩
set_option maxHeartbeats 2000000 in
theorem parent_any (ts : List ByteArray) (hg : Good ts) (h : ts ≠ []) (w : World) (hm : HasM w) : Calls Tryz.prog 17 #[.string (pth ts)] w fun e w' => e = .returned (.tuple #[.string (pth ts.dropLast), .int .i64 0]) ∧ Below w.heap.size w w' := by
  have PA := Lib.hid (path_any (pth ts) w hm)
  rw [splitE_some (splitO_good hg)] at PA
  have AB := Lib.hid (above_any ts hg h)
  have hr := pth_root hg h
  obtain ⟨q, hq⟩ : ∃ q, q = pth ts := ⟨_, rfl⟩
  rw [← hq] at PA AB hr ⊢
  clear hm hg hq
  go_enter Tryz.func17, Tryz.ntmps17
  go_wp2_with fail
  refine PA.out.mono ?_
  rintro e w1 ⟨rfl, hb⟩
  have B1 := Lib.hid hb
  clear hb PA
  go_wp2_with fail
  refine (AB.out w1).mono ?_
  rintro e w2 ⟨rfl, rfl⟩
  go_wp2_with fail
  go_ret2
  exact ⟨rfl, B1.out⟩
set_option maxHeartbeats 4000000 in
set_option maxRecDepth 100000 in
theorem under_any (a b : ByteArray) (w : World) (hm : HasM w) : Calls Tryz.prog 48 #[.string a, .string b] w fun e w' => e = .returned (.bool (underB a b)) ∧ Below w.heap.size w w' := by
  have H := Lib.hid hm
  have PA := Lib.hid (path_any a w hm)
  have PB : Hid (∀ W, HasM W → Calls Tryz.prog 35 #[.string b] W fun e w' => e = .returned (.int .i64 (splitE b)) ∧ Below W.heap.size W w') := Lib.hid fun W h => path_any b W h
  clear hm
  go_enter Tryz.func48, Tryz.ntmps48
  cases ha : splitO a with
  | none =>
    have hA := Lib.hid (under_none (b := b) ha).1
    rw [splitE_none ha] at PA
    go_wp2_with fail
    refine PA.out.mono ?_
    rintro e w1 ⟨rfl, hb⟩
    have B1 := Lib.hid hb
    clear hb PA
    go_wp2_with fail
    go_ret
    exact ⟨by rw [hA.out]; rfl, B1.out⟩
  | some ts =>
    rw [splitE_some ha] at PA
    go_wp2_with fail
    refine PA.out.mono ?_
    rintro e w1 ⟨rfl, hb⟩
    have B1 := Lib.hid hb
    have H1 := Lib.hid (H.out.below hb)
    clear hb PA H
    cases hb' : splitO b with
    | none =>
      have hA := Lib.hid (under_none (b := a) hb').2
      rw [splitE_none hb'] at PB
      go_wp2_with fail
      refine (PB.out w1 H1.out).mono ?_
      rintro e w2 ⟨rfl, hb⟩
      have B2 := Lib.hid (B1.out.trans (hb.mono B1.out.size))
      clear hb PB
      go_wp2_with fail
      go_ret
      exact ⟨by rw [hA.out]; rfl, B2.out⟩
    | some us =>
      rw [splitE_some hb'] at PB
      have hu : underB a b = (decide (a.data.toList = b.data.toList) || decide (b.data.toList = [47]) || Lib.hasPrefix a.data.toList (b.data.toList ++ [47])) := by
        unfold underB
        rw [ha, hb']
        rfl
      have hbs : b.size ≤ 64 := by
        obtain ⟨rfl, hg⟩ := splitO_some hb'
        rw [pth_size]
        exact hg.2.2
      go_wp2_with fail
      refine (PB.out w1 H1.out).mono ?_
      rintro e w2 ⟨rfl, hb⟩
      have B2 := Lib.hid (B1.out.trans (hb.mono B1.out.size))
      clear hb PB B1
      by_cases e1 : a.data.toList = b.data.toList
      · have g1 : (a.toList == b.toList) = true := by rw [list_of_bytes, list_of_bytes, beq_iff_eq]; exact e1
        have hA : Hid (underB a b = true) := Lib.hid (by rw [hu, decide_eq_true e1]; rfl)
        clear hu
        go_wp2_with fail
        go_ret
        exact ⟨by rw [hA.out]; rfl, B2.out⟩
      · have g1 : (a.toList == b.toList) = false := by rw [list_of_bytes, list_of_bytes, beq_eq_false_iff_ne]; exact e1
        by_cases e2 : b.data.toList = [47]
        · have g2 : (b.toList == [47]) = true := by rw [list_of_bytes, beq_iff_eq]; exact e2
          have hA : Hid (underB a b = true) := Lib.hid (by rw [hu, decide_eq_true e2, Bool.or_true]; rfl)
          clear hu
          go_wp2_with fail
          go_ret
          exact ⟨by rw [hA.out]; rfl, B2.out⟩
        · have g2 : (b.toList == [47]) = false := by rw [list_of_bytes, beq_eq_false_iff_ne]; exact e2
          have hA : Hid (underB a b = Lib.hasPrefix a.data.toList (b.data.toList ++ [47])) := Lib.hid (by rw [hu, decide_eq_false e1, decide_eq_false e2]; rfl)
          have HP : Hid (∀ W, Calls Tryz.prog 81 #[.string a, .string (b ++ ⟨#[47]⟩)] W fun e w' => e = .returned (.bool (Lib.hasPrefix a.data.toList (b.data.toList ++ [47]))) ∧ w' = W) := Lib.hid fun W => by
            have := Tryz.strings_HasPrefix a (b ++ ⟨#[47]⟩) W
            rw [show (b ++ (⟨#[47]⟩ : ByteArray)).data.toList = b.data.toList ++ [47] by simp] at this
            exact this
          clear hu
          go_wp2_with fail
          refine (HP.out w2).mono ?_
          rintro e w3 ⟨rfl, rfl⟩
          go_wp2_with fail
          go_ret
          exact ⟨by rw [hA.out]; rfl, B2.out⟩
end Go.Proofs.YtodfmnbfbndkhaaGreatDoor.L
