/-
  THE WALK of KeyParts.
-/
import Derived.Test.YtnckmnmkolboiaaDoorFixed
import Derived.Test.YtnckmnmkolboiaaDoorRefParts
namespace Go.Proofs.YtnckmnmkolboiaaDoor
open Go.RowKit
def numR (n : Int) : ByteArray × Int := if n < 0 then (⟨#[]⟩, 1) else (txt (num 8 n.toNat), 0)
theorem number_any (n : Int) (w : World) (hn : n ≤ 9223372036854775807) : Calls Tryd.prog 10 #[.int .i64 n] w fun e w' => e = .returned (.tuple #[.string (numR n).1, .int .i64 (numR n).2]) ∧ Below w.heap.size w w' := by
  by_cases h : n < 0
  · unfold numR
    rw [if_pos h]
    exact number_down n w h
  · unfold numR
    rw [if_neg h]
    obtain ⟨m, rfl⟩ : ∃ m : Nat, n = (m : Int) := ⟨n.toNat, by omega⟩
    exact number_up m w (by omega)
theorem refNumber_any (n : Int) (w : World) (hn : n ≤ 9223372036854775807) : Calls Tryd.prog 11 #[.int .i64 n] w fun e w' => e = .returned (.tuple #[.string (numR n).1, .int .i64 (numR n).2]) ∧ Below w.heap.size w w' := by
  by_cases h : n < 0
  · unfold numR
    rw [if_pos h]
    exact refNumber_down n w h
  · unfold numR
    rw [if_neg h]
    obtain ⟨m, rfl⟩ : ∃ m : Nat, n = (m : Int) := ⟨n.toNat, by omega⟩
    exact refNumber_up m w (by omega)
set_option maxHeartbeats 8000000 in
set_option maxRecDepth 100000 in
theorem keyParts_walk (a b : ByteArray) (n : Int) (s : ByteArray) (w : World) (hM : HasM w) (ha : a.size ≤ 140737488351232) (hb : b.size ≤ 140737488351232) (hn : -9223372036854775808 ≤ n ∧ n ≤ 9223372036854775807) (_ : s.size ≤ 140737488351232) :
    Calls Tryd.prog 3 #[.string a, .string b, .int .i64 n, .string s] w fun e w' => e = .returned (.bool true) ∧ Below w.heap.size w w' := by
  have FX := Lib.hid (fixed_ok w hM)
  have T1 : Hid (∀ W, Calls Tryd.prog 8 #[.string a, .string b] W fun e w' => e = .returned (.tuple #[.string (btwR a b).1, .int .i64 (btwR a b).2]) ∧ Below W.heap.size W w') := Lib.hid fun W => between_any a b W ha hb
  have T2 : Hid (∀ W, Calls Tryd.prog 9 #[.string a, .string b] W fun e w' => e = .returned (.tuple #[.string (btwR a b).1, .int .i64 (btwR a b).2]) ∧ Below W.heap.size W w') := Lib.hid fun W => refBetween_any a b W ha
  have T3 : Hid (∀ W, Calls Tryd.prog 10 #[.int .i64 n] W fun e w' => e = .returned (.tuple #[.string (numR n).1, .int .i64 (numR n).2]) ∧ Below W.heap.size W w') := Lib.hid fun W => number_any n W hn.2
  have T4 : Hid (∀ W, Calls Tryd.prog 11 #[.int .i64 n] W fun e w' => e = .returned (.tuple #[.string (numR n).1, .int .i64 (numR n).2]) ∧ Below W.heap.size W w') := Lib.hid fun W => refNumber_any n W hn.2
  have T5 : Hid (∀ W, Calls Tryd.prog 12 #[.string s] W fun e w' => e = .returned (.tuple #[.int .i64 (unR s).1, .int .i64 (unR s).2]) ∧ Below W.heap.size W w') := Lib.hid fun W => unnumber_any s W
  have T6 : Hid (∀ W, Calls Tryd.prog 13 #[.string s] W fun e w' => e = .returned (.tuple #[.int .i64 (unR s).1, .int .i64 (unR s).2]) ∧ Below W.heap.size W w') := Lib.hid fun W => refUnnumber_any s W
  obtain ⟨⟨x, e⟩, hx⟩ : ∃ r, r = btwR a b := ⟨_, rfl⟩
  obtain ⟨⟨u, g⟩, hu⟩ : ∃ r, r = numR n := ⟨_, rfl⟩
  obtain ⟨⟨i, p⟩, hi⟩ : ∃ r, r = unR s := ⟨_, rfl⟩
  rw [← hx] at T1 T2
  rw [← hu] at T3 T4
  rw [← hi] at T5 T6
  have ee : (e == e) = true := by simp
  have gg : (g == g) = true := by simp
  have ii : (i == i) = true := by simp
  have pp : (p == p) = true := by simp
  clear hx hu hi hM ha hb hn
  go_enter Tryd.func3, Tryd.ntmps3
  go_wp2_with fail
  refine FX.out.mono ?_
  rintro r w1 ⟨rfl, hb⟩
  have B1 := Lib.hid hb
  clear hb FX
  go_wp2_with fail
  refine (T1.out w1).mono ?_
  rintro r w2 ⟨rfl, hb⟩
  have B2 := Lib.hid (B1.out.trans (hb.mono B1.out.size))
  clear hb B1
  go_wp2_with fail
  refine (T2.out w2).mono ?_
  rintro r w3 ⟨rfl, hb⟩
  have B3 := Lib.hid (B2.out.trans (hb.mono B2.out.size))
  clear hb B2
  go_wp2_with fail
  refine (T3.out w3).mono ?_
  rintro r w4 ⟨rfl, hb⟩
  have B4 := Lib.hid (B3.out.trans (hb.mono B3.out.size))
  clear hb B3
  go_wp2_with fail
  refine (T4.out w4).mono ?_
  rintro r w5 ⟨rfl, hb⟩
  have B5 := Lib.hid (B4.out.trans (hb.mono B4.out.size))
  clear hb B4
  go_wp2_with fail
  refine (T5.out w5).mono ?_
  rintro r w6 ⟨rfl, hb⟩
  have B6 := Lib.hid (B5.out.trans (hb.mono B5.out.size))
  clear hb B5
  go_wp2_with fail
  refine (T6.out w6).mono ?_
  rintro r w7 ⟨rfl, hb⟩
  have B7 := Lib.hid (B6.out.trans (hb.mono B6.out.size))
  clear hb B6
  go_wp2_with fail
  go_ret
  exact ⟨rfl, B7.out⟩
end Go.Proofs.YtnckmnmkolboiaaDoor
