/-
  The law QuantReckons.
-/
import Derived.Test.YtendjedlcobhlaaDoorLgH
import Derived.Test.YtendjedlcobhlaaDoorKnownK
namespace Go.Proofs.YtendjedlcobhlaaDoor
open Go.RowKit Go.Lib
open Go.Sort (grow)
set_option maxHeartbeats 8000000 in
set_option maxRecDepth 100000 in
theorem quantReckons_walk (a b d : Int) (w : World) (G : Glob w) (ha : -9223372036854775808 ≤ a ∧ a < 9223372036854775808) (hb : -9223372036854775808 ≤ b ∧ b < 9223372036854775808) (hd : -9223372036854775808 ≤ d ∧ d < 9223372036854775808) :
    Calls Tryd.prog 7 #[.int .i64 a, .int .i64 b, .int .i64 d] w fun e w' => e = .returned (.bool true) ∧ Below w.heap.size w w' := by
  have K := Lib.hid (known_ok w G)
  obtain ⟨⟨x1, e1⟩, h1⟩ : ∃ r, r = Lg.addR a b := ⟨_, rfl⟩
  obtain ⟨⟨x2, e2⟩, h2⟩ : ∃ r, r = Lg.subR a b := ⟨_, rfl⟩
  obtain ⟨⟨x3, e3⟩, h3⟩ : ∃ r, r = Lg.scaleR a b d := ⟨_, rfl⟩
  have A1 : Hid (∀ W, Calls Tryd.prog 23 #[.int .i64 a, .int .i64 b] W fun e w' => e = .returned (.tuple #[.int .i64 x1, .int .i64 e1]) ∧ Below W.heap.size W w') := Lib.hid fun W => by have q := Lg.add_any a b (by omega) (by omega) W; rw [← h1] at q; exact q
  have A2 : Hid (∀ W, Calls Tryd.prog 24 #[.int .i64 a, .int .i64 b] W fun e w' => e = .returned (.tuple #[.int .i64 x1, .int .i64 e1]) ∧ Below W.heap.size W w') := Lib.hid fun W => by have q := Lg.refAdd_any a b (by omega) (by omega) W; rw [← h1] at q; exact q
  have B1 : Hid (∀ W, Calls Tryd.prog 25 #[.int .i64 a, .int .i64 b] W fun e w' => e = .returned (.tuple #[.int .i64 x2, .int .i64 e2]) ∧ Below W.heap.size W w') := Lib.hid fun W => by have q := Lg.sub_all a b (by omega) W; rw [← h2] at q; exact q
  have B2 : Hid (∀ W, Calls Tryd.prog 26 #[.int .i64 a, .int .i64 b] W fun e w' => e = .returned (.tuple #[.int .i64 x2, .int .i64 e2]) ∧ Below W.heap.size W w') := Lib.hid fun W => by have q := Lg.refSub_any a b (by omega) W; rw [← h2] at q; exact q
  have C1 : Hid (∀ W, Calls Tryd.prog 27 #[.int .i64 a, .int .i64 b, .int .i64 d] W fun e w' => e = .returned (.tuple #[.int .i64 x3, .int .i64 e3]) ∧ Below W.heap.size W w') := Lib.hid fun W => by have q := Lg.scale_all a b d (by omega) (by omega) (by omega) W; rw [← h3] at q; exact q
  have C2 : Hid (∀ W, Calls Tryd.prog 28 #[.int .i64 a, .int .i64 b, .int .i64 d] W fun e w' => e = .returned (.tuple #[.int .i64 x3, .int .i64 e3]) ∧ Below W.heap.size W w') := Lib.hid fun W => by have q := Lg.refScale_any a b d (by omega) (by omega) (by omega) W; rw [← h3] at q; exact q
  clear h1 h2 h3 ha hb hd G
  go_enter Tryd.func7, Tryd.ntmps7
  go_wp2_with fail
  refine K.out.mono ?_
  rintro e w1 ⟨rfl, hb⟩
  have D1 := Lib.hid hb
  clear hb
  go_wp2_with fail
  refine (A1.out w1).mono ?_
  rintro e w2 ⟨rfl, hb⟩
  have D2 := Lib.hid (D1.out.trans (hb.mono D1.out.size))
  clear hb D1
  go_wp2_with fail
  refine (A2.out w2).mono ?_
  rintro e w3 ⟨rfl, hb⟩
  have D3 := Lib.hid (D2.out.trans (hb.mono D2.out.size))
  clear hb D2
  go_wp2_with fail
  refine (B1.out w3).mono ?_
  rintro e w4 ⟨rfl, hb⟩
  have D4 := Lib.hid (D3.out.trans (hb.mono D3.out.size))
  clear hb D3
  go_wp2_with fail
  refine (B2.out w4).mono ?_
  rintro e w5 ⟨rfl, hb⟩
  have D5 := Lib.hid (D4.out.trans (hb.mono D4.out.size))
  clear hb D4
  go_wp2_with fail
  refine (C1.out w5).mono ?_
  rintro e w6 ⟨rfl, hb⟩
  have D6 := Lib.hid (D5.out.trans (hb.mono D5.out.size))
  clear hb D5
  go_wp2_with fail
  refine (C2.out w6).mono ?_
  rintro e w7 ⟨rfl, hb⟩
  have D7 := Lib.hid (D6.out.trans (hb.mono D6.out.size))
  clear hb D6
  go_wp2_with fail
  go_ret
  exact ⟨by first | rfl | simp, D7.out⟩
end Go.Proofs.YtendjedlcobhlaaDoor
