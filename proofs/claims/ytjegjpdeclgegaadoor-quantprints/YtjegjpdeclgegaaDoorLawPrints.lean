/-
  The law QuantPrints.
-/
import Derived.Test.YtjegjpdeclgegaaDoorLgX
import Derived.Test.YtjegjpdeclgegaaDoorKnownK
import Derived.Test.YtjegjpdeclgegaaDoorPrintN
namespace Go.Proofs.YtjegjpdeclgegaaDoor
open Go.RowKit Go.Lib
open Go.Sort (grow)
/-- What both tell. -/
def prT (v : Int) : ByteArray := if v < 0 then ⟨#[]⟩ else best v.toNat 12
theorem refPrint_any (v : Int) (hv : v < 9223372036854775808) (w : World) :
    Calls Tryd.prog 7 #[.int .i64 v] w fun e w' => e = .returned (.string (prT v)) ∧ Below w.heap.size w w' := by
  by_cases hn : v < 0
  · rw [prT, if_pos hn]; exact Lg.refPrint_neg v hn w
  · obtain ⟨n, rfl⟩ : ∃ n : Nat, v = n := ⟨v.toNat, by omega⟩
    rw [prT, if_neg hn, Int.toNat_natCast]
    by_cases h0 : n = 0
    · subst h0
      rw [Lg.best_zero 12 (by decide) (by decide)]
      exact Lg.refPrint_zero w
    · by_cases hm : n % 1000 = 0
      · exact Lg.refPrint_loop n (by omega) (by omega) hm _ (Lg.best_ref (by omega) hm) w
      · rw [Lg.best_milli hm 12 (by decide) (by decide)]
        exact Lg.refPrint_milli n (by omega) hm w
theorem print_all (v : Int) (hv : v < 9223372036854775808) (w : World) (G : Glob w) :
    Calls Tryd.prog 6 #[.int .i64 v] w fun e w' => e = .returned (.string (prT v)) ∧ Below w.heap.size w w' := by
  by_cases hn : v < 0
  · rw [prT, if_pos hn]; exact print_neg v hn w
  · obtain ⟨n, rfl⟩ : ∃ n : Nat, v = n := ⟨v.toNat, by omega⟩
    rw [prT, if_neg hn, Int.toNat_natCast]
    exact print_any n (by omega) w G.1 G.2
set_option maxHeartbeats 8000000 in
set_option maxRecDepth 100000 in
theorem quantPrints_walk (a : Int) (w : World) (G : Glob w) (ha : -9223372036854775808 ≤ a ∧ a < 9223372036854775808) :
    Calls Tryd.prog 3 #[.int .i64 a] w fun e w' => e = .returned (.bool true) ∧ Below w.heap.size w w' := by
  have K := Lib.hid (known_ok w G)
  obtain ⟨s, hs⟩ : ∃ s, s = prT a := ⟨_, rfl⟩
  have PA : Hid (∀ W, Below w.heap.size w W → Calls Tryd.prog 6 #[.int .i64 a] W fun e w' => e = .returned (.string s) ∧ Below W.heap.size W w') := Lib.hid fun W h => by rw [hs]; exact print_all a ha.2 W (G.below h)
  have PB : Hid (∀ W, Calls Tryd.prog 7 #[.int .i64 a] W fun e w' => e = .returned (.string s) ∧ Below W.heap.size W w') := Lib.hid fun W => by rw [hs]; exact refPrint_any a ha.2 W
  clear hs ha G
  go_enter Tryd.func3, Tryd.ntmps3
  go_wp2_with fail
  refine K.out.mono ?_
  rintro e w1 ⟨rfl, hb⟩
  have D1 := Lib.hid hb
  clear hb
  go_wp2_with fail
  refine (PA.out w1 D1.out).mono ?_
  rintro e w2 ⟨rfl, hb⟩
  have D2 := Lib.hid (D1.out.trans (hb.mono D1.out.size))
  clear hb D1
  go_wp2_with fail
  refine (PB.out w2).mono ?_
  rintro e w3 ⟨rfl, hb⟩
  have D3 := Lib.hid (D2.out.trans (hb.mono D2.out.size))
  clear hb D2
  go_wp2_with fail
  go_ret
  exact ⟨by first | rfl | simp, D3.out⟩
end Go.Proofs.YtjegjpdeclgegaaDoor
