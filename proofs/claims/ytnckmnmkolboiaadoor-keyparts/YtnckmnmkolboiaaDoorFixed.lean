/-
  THE LAW fixed: it stands.
-/
import Derived.Test.YtnckmnmkolboiaaDoorSplA
namespace Go.Proofs.YtnckmnmkolboiaaDoor
open Go.RowKit
theorem strs_built (w : World) (ts : List ByteArray) (cs : Array Value) (n : Nat) (hc : cs = (ts.map Value.string).toArray) (hn : n = ts.length) (hl : ts.length ≤ maxLen) : Strs (w.alloc (.cells cs 9)) (.slice (some ⟨w.heap.size, 0, none⟩) n n) ts := by
  subst hc hn
  refine ⟨_, ts.length, rfl, Nat.le_refl _, hl, (fun h => by cases h), fun k hk => ⟨w.heap.size, 0, rfl, ?_⟩⟩
  rw [Nat.zero_add, World.cell?_alloc_new, ← Array.getElem?_toList]
  exact cellsS_at ts k hk
theorem below_built (w : World) (o : Obj) : Below w.heap.size w (w.alloc o) := (Below.refl _ w).alloc (Nat.le_refl _) _
def ab : List ByteArray := [⟨#[97]⟩, ⟨#[98]⟩]
theorem make_ab : makeR ab = (⟨#[97, 0, 1, 98, 0, 1]⟩, 0) := by decide
theorem split_ab : splitE ⟨#[97, 0, 1, 98, 0, 1]⟩ = 0 ∧ splitT ⟨#[97, 0, 1, 98, 0, 1]⟩ = ab := by
  unfold splitE splitT
  rw [split_make make_ab]
  exact ⟨rfl, rfl⟩
set_option maxHeartbeats 4000000 in
set_option maxRecDepth 100000 in
theorem fixed_ok (w : World) (hm : HasM w) : Calls Tryd.prog 7 #[] w fun e w' => e = .returned (.bool true) ∧ Below w.heap.size w w' := by
  have H := Lib.hid hm
  clear hm
  have MK : Hid (∀ v W, HasM W → Strs W v ab → Calls Tryd.prog 15 #[v] W fun e w' => e = .returned (.tuple #[.string ⟨#[97, 0, 1, 98, 0, 1]⟩, .int .i64 0]) ∧ Below W.heap.size W w') := Lib.hid fun v W h hv => by
    have := make_any v ab W h hv (by intro t ht; simp [ab] at ht; rcases ht with rfl | rfl <;> decide)
    rw [make_ab] at this
    exact this
  have SP : Hid (∀ W, HasM W → Calls Tryd.prog 24 #[.string ⟨#[97, 0, 1, 98, 0, 1]⟩] W fun e w' => ∃ v, e = .returned (.tuple #[v, .int .i64 0]) ∧ OwnS W.heap.size w' v ab ∧ Below W.heap.size W w') := Lib.hid fun W h => by
    have := split_any ⟨#[97, 0, 1, 98, 0, 1]⟩ W h (by decide)
    rw [split_ab.1, split_ab.2] at this
    exact this
  go_enter Tryd.func7, Tryd.ntmps7
  go_wp2_with fail
  have B0 := Lib.hid (below_built w (.cells #[.string ⟨#[97]⟩, .string ⟨#[98]⟩] 9))
  refine (MK.out _ _ (H.out.below B0.out) (strs_built w ab _ _ rfl rfl (by decide))).mono ?_
  rintro e w1 ⟨rfl, hb⟩
  have B1 := Lib.hid (B0.out.trans (hb.mono B0.out.size))
  clear hb B0
  go_wp2_with fail
  refine (SP.out w1 (H.out.below B1.out)).mono ?_
  rintro e w2 ⟨v2, rfl, own, hb⟩
  have B2 := Lib.hid (B1.out.trans (hb.mono B1.out.size))
  have S2 := Lib.hid own.strs
  clear hb own B1
  obtain ⟨a2, c2, e2, _, _⟩ := S2.out.len
  subst e2
  go_wp2_with fail
  have B3 := Lib.hid (below_built w2 (.cells #[.string ⟨#[97]⟩, .string ⟨#[98]⟩] 9))
  have SA := Lib.hid (same_any _ _ ab ab _ (S2.out.below B3.out) (strs_built w2 ab _ _ rfl rfl (by decide)))
  rw [decide_eq_true (rfl : ab = ab)] at SA
  refine SA.out.mono ?_
  rintro e w3 ⟨rfl, hb⟩
  have B4 := Lib.hid ((B2.out.trans (B3.out.mono B2.out.size)).trans (hb.mono (Nat.le_trans B2.out.size B3.out.size)))
  clear hb SA
  go_wp2_with fail
  have X1 := Lib.hid (below_built w3 (.cells #[.string ⟨#[97]⟩] 9))
  have X2 := Lib.hid (below_built (w3.alloc (.cells #[.string ⟨#[97]⟩] 9)) (.cells #[.string ⟨#[97]⟩, .string ⟨#[98]⟩] 9))
  have hz : (w3.alloc (.cells #[.string ⟨#[97]⟩] 9)).heap.size = w3.heap.size + 1 := by simp
  have CA := Lib.hid (compare_any (.slice (some ⟨w3.heap.size, 0, none⟩) 1 1) (.slice (some ⟨w3.heap.size + 1, 0, none⟩) 2 2) [⟨#[97]⟩] ab _ ((strs_built w3 [⟨#[97]⟩] _ _ rfl rfl (by decide)).below X2.out) (by rw [← hz]; exact strs_built (w3.alloc (.cells #[.string ⟨#[97]⟩] 9)) ab _ _ rfl rfl (by decide)))
  clear hz
  rw [show cmpR [⟨#[97]⟩] ab = -1 by decide] at CA
  refine CA.out.mono ?_
  rintro e w4 ⟨rfl, hb⟩
  have B5 := Lib.hid ((B4.out.trans (X1.out.mono B4.out.size)).trans ((X2.out.mono (Nat.le_trans B4.out.size X1.out.size)).trans (hb.mono (Nat.le_trans B4.out.size (Nat.le_trans X1.out.size X2.out.size)))))
  clear hb CA
  go_wp2_with fail
  go_ret
  exact ⟨rfl, B5.out⟩
end Go.Proofs.YtnckmnmkolboiaaDoor
