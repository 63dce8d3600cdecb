/-
  THE WALK of KeySplits.
-/
import Derived.Test.YtggpiikiplogmaaDoorFixed
import Derived.Test.YtggpiikiplogmaaDoorRefSplit
namespace Go.Proofs.YtggpiikiplogmaaDoor
open Go.RowKit
set_option maxHeartbeats 8000000 in
set_option maxRecDepth 100000 in
theorem keySplits_walk (k : ByteArray) (w : World) (hm : HasM w) (hk : k.size ≤ 1048576) :
    Calls Tryd.prog 5 #[.string k] w fun e w' => e = .returned (.bool true) ∧ Below w.heap.size w w' := by
  have H := Lib.hid hm
  have FX := Lib.hid (fixed_ok w hm)
  have S1 : Hid (∀ W, HasM W → Calls Tryd.prog 13 #[.string k] W fun e w' => ∃ v, e = .returned (.tuple #[v, .int .i64 (splitE k)]) ∧ OwnS W.heap.size w' v (splitT k) ∧ Below W.heap.size W w') := Lib.hid fun W h => split_any k W h (by omega)
  have S2 : Hid (∀ W, Calls Tryd.prog 14 #[.string k] W fun e w' => ∃ v, e = .returned (.tuple #[v, .int .i64 (splitE k)]) ∧ OwnS W.heap.size w' v (splitT k) ∧ Below W.heap.size W w') := Lib.hid fun W => refSplit_any k W hk
  have SM : Hid (∀ v v' W, Strs W v (splitT k) → Strs W v' (splitT k) → Calls Tryd.prog 15 #[v, v'] W fun e w' => e = .returned (.bool true) ∧ Below W.heap.size W w') := Lib.hid fun v v' W h h' => by
    have := same_any v v' _ _ W h h'
    rw [decide_eq_true (rfl : splitT k = splitT k)] at this
    exact this
  obtain ⟨f, hf⟩ : ∃ f, f = splitE k := ⟨_, rfl⟩
  rw [← hf] at S1 S2
  have ff : (f == f) = true := by simp
  clear hf hm
  go_enter Tryd.func5, Tryd.ntmps5
  go_wp2_with fail
  refine FX.out.mono ?_
  rintro r w1 ⟨rfl, hb⟩
  have B1 := Lib.hid hb
  clear hb FX
  go_wp2_with fail
  refine (S1.out w1 (H.out.below B1.out)).mono ?_
  rintro r w2 ⟨v2, rfl, o2, hb⟩
  have B2 := Lib.hid (B1.out.trans (hb.mono B1.out.size))
  have T2 := Lib.hid o2.strs
  clear hb o2 B1
  go_wp2_with fail
  refine (S2.out w2).mono ?_
  rintro r w3 ⟨v3, rfl, o3, hb⟩
  have B3 := Lib.hid (B2.out.trans (hb.mono B2.out.size))
  have T3 := Lib.hid (And.intro (T2.out.below hb) o3.strs)
  clear hb o3 B2 T2
  go_wp2_with fail
  refine (SM.out v2 v3 w3 T3.out.1 T3.out.2).mono ?_
  rintro r w4 ⟨rfl, hb⟩
  have B4 := Lib.hid (B3.out.trans (hb.mono B3.out.size))
  clear hb B3 T3
  go_wp2_with fail
  go_ret
  exact ⟨rfl, B4.out⟩
end Go.Proofs.YtggpiikiplogmaaDoor
