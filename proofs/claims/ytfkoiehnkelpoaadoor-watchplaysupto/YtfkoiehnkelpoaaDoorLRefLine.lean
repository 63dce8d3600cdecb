/-
  The documents Path, Line, Parent, Under: of every text.
-/
import Derived.Test.YtfkoiehnkelpoaaDoorLRefSplit
namespace Go.Proofs.YtfkoiehnkelpoaaDoor.L
open Go.RowKit
theorem OwnS.mono {B B' : Nat} {w : World} {v : Value} {ts : List ByteArray} (h : OwnS B w v ts) (hb : B' ≤ B) : OwnS B' w v ts := by
  obtain ⟨h1, h | ⟨g, cap, cur, hv, h0, hr⟩⟩ := h
  · exact ⟨h1, .inl h⟩
  · exact ⟨h1, .inr ⟨g, cap, cur, hv, Nat.le_trans hb h0, hr⟩⟩
theorem joinR_good {ts : List ByteArray} (hg : Good ts) : joinR ts = (pth ts, 0) := by
  unfold joinR
  rw [hg.1, if_pos rfl, if_pos hg.2.1, if_pos hg.2.2]
  rfl
set_option maxHeartbeats 2000000 in
theorem refPath_any (p : ByteArray) (w : World) (hs : p.size ≤ 1048576) : Calls Tryd.prog 55 #[.string p] w fun e w' => e = .returned (.int .i64 (splitE p)) ∧ Below w.heap.size w w' := by
  have SP := Lib.hid (refSplit_any p w hs)
  go_enter Tryd.func55, Tryd.ntmps55
  go_wp2_with fail
  refine SP.out.mono ?_
  rintro e w1 ⟨v, rfl, _, hb⟩
  have B1 := Lib.hid hb
  clear hb
  go_wp2_with fail
  go_ret
  exact ⟨rfl, B1.out⟩
set_option maxHeartbeats 2000000 in
theorem refLine_none (p : ByteArray) (w : World) (hs : p.size ≤ 1048576) (hn : splitO p = none) : Calls Tryd.prog 60 #[.string p] w fun e w' => e = .returned (.tuple #[.slice none 0 0, .int .i64 41]) ∧ Below w.heap.size w w' := by
  have SP := Lib.hid (refSplit_any p w hs)
  rw [splitE_none hn, splitT_none hn] at SP
  go_enter Tryd.func60, Tryd.ntmps60
  go_wp2_with fail
  refine SP.out.mono ?_
  rintro e w1 ⟨v, rfl, _, hb⟩
  have B1 := Lib.hid hb
  clear hb SP
  go_wp2_with fail
  go_ret2
  exact ⟨rfl, B1.out⟩
set_option maxHeartbeats 4000000 in
set_option maxRecDepth 100000 in
theorem refLine_any (ts : List ByteArray) (hg : Good ts) (w : World) : Calls Tryd.prog 60 #[.string (pth ts)] w fun e w' => ∃ v, e = .returned (.tuple #[v, .int .i64 0]) ∧ OwnS w.heap.size w' v (lineOf ts) ∧ Below w.heap.size w w' := by
  have SP := Lib.hid (refSplit_any (pth ts) w (by rw [pth_size]; have := hg.2.2; omega))
  rw [splitE_some (splitO_good hg), splitT_some (splitO_good hg)] at SP
  have GG := Lib.hid hg
  have h8 := hg.2.1
  have RJ : Hid (∀ k, k ≤ ts.length → ∀ W v, Strs W v (ts.take k) → Calls Tryd.prog 72 #[v] W fun e w' => e = .returned (.tuple #[.string (pth (ts.take k)), .int .i64 0]) ∧ Below W.heap.size W w') := Lib.hid fun k hk W v h => by
    have := refJoin_any v (ts.take k) W h (by rw [List.length_take]; omega)
    rw [joinR_good (hg.take k)] at this
    exact this
  obtain ⟨q, hq⟩ : ∃ q, q = pth ts := ⟨_, rfl⟩
  rw [← hq] at SP ⊢
  clear hg hq
  go_enter Tryd.func60, Tryd.ntmps60
  go_wp2_with fail
  refine SP.out.mono ?_
  rintro e w1 ⟨v, rfl, hs, hb⟩
  have B1 := Lib.hid hb
  have S1 := Lib.hid hs
  obtain ⟨a, cap, hv, hlc, hcm⟩ := S1.out.len
  subst hv
  unfold maxLen at hcm
  clear hb hs SP
  go_wp2_with fail
  go_loopg [6, 7] (ts.length + 1) (fun g so si wr => ∃ (m : Nat) (vo : Value), m ≤ ts.length + 1 ∧ g = ts.length + 1 - m ∧ si = .int .i64 ((ts.length : Int) - m) ∧ so = vo ∧ OwnS w1.heap.size wr vo (lineTo ts m) ∧ Below w1.heap.size w1 wr)
  case atStart => exact ⟨0, _, Nat.zero_le _, rfl, by simp, rfl, World.ownsRow_nil _ _ _ _, Below.refl _ _⟩
  case round =>
    obtain ⟨m, vo, hm, hgm, rfl, rfl, own, hb1⟩ := hrel
    have GM := Lib.hid hgm
    have O := Lib.hid own
    have HB1 := Lib.hid hb1
    clear hgm own hb1
    by_cases hlt : m < ts.length + 1
    · obtain ⟨k, hk⟩ : ∃ k, k = ts.length - m := ⟨_, rfl⟩
      have ek : (ts.length : Int) - (m : Int) = (k : Int) := by omega
      rw [ek]
      have hkl : k ≤ ts.length := by omega
      have gk : decide ((k : Int) ≥ 0) = true := decide_eq_true (by omega)
      have JK := Lib.hid (RJ.out k hkl)
      have ST := Lib.hid ((S1.out.below HB1.out).take k hkl)
      have KK := Lib.hid hk
      clear hk ek
      obtain ⟨x, hx⟩ : ∃ x, x = pth (ts.take k) := ⟨_, rfl⟩
      have X := Lib.hid hx
      rw [← hx] at JK
      clear hx
      go_wp2_with fail
      refine (JK.out _ _ ST.out).mono ?_
      rintro e w2 ⟨rfl, hb⟩
      have B2 := Lib.hid (HB1.out.trans (hb.mono HB1.out.size))
      have O2 := Lib.hid (O.out.below hb)
      have L : Hid (((lineTo ts m).length + 1) * 16 ≤ 140737488355328) := Lib.hid (by rw [lineTo_length]; omega)
      clear hb O HB1 JK ST
      go_wp2_with (at_builtin; refine app_txt rfl _ _ rfl rfl O2.out B2.out.size x rfl L.out ?_)
      intro v' w' h1 h2
      have B3 := Lib.hid (B2.out.trans ((Below.refl _ _).grown h2 B2.out.size (fun k hk => (O2.out.lt k hk).1)))
      have O3 : Hid (OwnS w1.heap.size w' v' (lineTo ts (m + 1))) := Lib.hid (by
        rw [lineTo_succ, ← KK.out, ← X.out]
        exact h1)
      clear h1 h2 O2 B2 L
      go_wp2_with fail
      go_roundg (ts.length + 1 - (m + 1))
      case measure => have := GM.out; omega
      case rel => exact ⟨m + 1, _, by omega, rfl, by have := KK.out; go_num, rfl, O3.out, B3.out⟩
    · have em : m = ts.length + 1 := by omega
      subst em
      have gk : decide ((-1 : Int) ≥ 0) = false := by decide
      rw [show (ts.length : Int) - ((ts.length + 1 : Nat) : Int) = -1 by omega]
      go_wp2_with fail
      go_ret2
      exact ⟨_, rfl, O.out.mono B1.out.size, B1.out.trans (HB1.out.mono B1.out.size)⟩
end Go.Proofs.YtfkoiehnkelpoaaDoor.L
