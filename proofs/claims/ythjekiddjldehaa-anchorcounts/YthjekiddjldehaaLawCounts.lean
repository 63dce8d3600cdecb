/-
  AnchorCounts.
-/
import Derived.Test.YthjekiddjldehaaLawCnT0
import Derived.Test.YthjekiddjldehaaLawCnT1
import Derived.Test.YthjekiddjldehaaLawCnTG
import Derived.Test.YthjekiddjldehaaLawCnTL
import Derived.Test.YthjekiddjldehaaLawCnF0
import Derived.Test.YthjekiddjldehaaLawCnF1
import Derived.Test.YthjekiddjldehaaLawCnFG
import Derived.Test.YthjekiddjldehaaLawCnFL
namespace Go.Proofs.Ythjekiddjldehaa
open Go.RowKit Go.Maps
set_option maxRecDepth 100000 in
theorem anchorCounts_walk (v0 : Value) (a : Sup) (v1 : Value) (b : Sup) (swap : Bool) (spoil at' : Int) (w : World) (ha : Sd w v0 a) (_ha : RgS a) (hb : Sd w v1 b) (_hb : RgS b)
    (_hs : -9223372036854775808 ≤ spoil ∧ spoil < 9223372036854775808) (_ht : -9223372036854775808 ≤ at' ∧ at' < 9223372036854775808) :
    Calls Try.prog 3 #[v0, v1, .bool swap, .int .i64 spoil, .int .i64 at'] w fun e w' => e = .returned (.bool true) ∧ Below w.heap.size w w' := by
  have ha' : v0 = .agg a.arr := ha
  have hb' : v1 = .agg b.arr := hb
  subst ha' hb'
  clear ha hb _ha _hb
  obtain ⟨⟨xgen, xep, xblk, xlog, xst, xpl, xrt, xcnt, xver⟩, hx⟩ : ∃ s, s = rightS a (2 * (1 + (mk a.gen 10 : Int))) := ⟨_, rfl⟩
  obtain ⟨⟨ygen, yep, yblk, ylog, yst, ypl, yrt, ycnt, yver⟩, hy⟩ : ∃ s, s = rightS b (2 * (mk b.gen 10 : Int) + 1) := ⟨_, rfl⟩
  cases swap with
  | false =>
    by_cases h0 : spoil = 0
    · subst h0
      exact cn_F0 a b _ _ _ _ _ _ _ _ _ _ _ _ _ _ _ _ _ _ at' w hx hy
    · by_cases h1 : spoil = 1
      · subst h1
        exact cn_F1 a b _ _ _ _ _ _ _ _ _ _ _ _ _ _ _ _ _ _ at' w hx hy
      · by_cases hg : ygen < xgen
        · exact cn_FG a b _ _ _ _ _ _ _ _ _ _ _ _ _ _ _ _ _ _ spoil at' w hx hy h0 h1 hg
        · exact cn_FL a b _ _ _ _ _ _ _ _ _ _ _ _ _ _ _ _ _ _ spoil at' w hx hy h0 h1 hg
  | true =>
    by_cases h0 : spoil = 0
    · subst h0
      exact cn_T0 a b _ _ _ _ _ _ _ _ _ _ _ _ _ _ _ _ _ _ at' w hx hy
    · by_cases h1 : spoil = 1
      · subst h1
        exact cn_T1 a b _ _ _ _ _ _ _ _ _ _ _ _ _ _ _ _ _ _ at' w hx hy
      · by_cases hg : ygen < xgen
        · exact cn_TG a b _ _ _ _ _ _ _ _ _ _ _ _ _ _ _ _ _ _ spoil at' w hx hy h0 h1 hg
        · exact cn_TL a b _ _ _ _ _ _ _ _ _ _ _ _ _ _ _ _ _ _ spoil at' w hx hy h0 h1 hg
end Go.Proofs.Ythjekiddjldehaa
