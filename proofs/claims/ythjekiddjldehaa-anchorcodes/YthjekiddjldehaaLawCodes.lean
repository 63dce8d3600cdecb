/-
  AnchorCodes.
-/
import Derived.Test.YthjekiddjldehaaLawCoY
import Derived.Test.YthjekiddjldehaaLawCoN
namespace Go.Proofs.Ythjekiddjldehaa
open Go.RowKit Go.Maps
theorem anchorCodes_walk (v0 : Value) (s : Sup) (blocks : Int) (v2 : Value) (b : List UInt8) (w : World) (hs : Sd w v0 s) (_hs : RgS s)
    (_ha : -9223372036854775808 ≤ blocks ∧ blocks < 9223372036854775808) (hb : Bytes w v2 b) (hbl : b.length ≤ 140737488351232) :
    Calls Try.prog 6 #[v0, .int .i64 blocks, v2] w fun e w' => e = .returned (.bool true) ∧ Below w.heap.size w w' := by
  have hs' : v0 = .agg s.arr := hs
  subst hs'
  clear hs _hs
  obtain ⟨xgen, xep, xblk, xlog, xst, xpl, xrt, xcnt, xver⟩ := s
  cases hva : vaB (Sup.mk xgen xep xblk xlog xst xpl xrt xcnt xver) xblk with
  | false => exact ac_N _ _ _ _ _ _ _ _ _ blocks v2 b w hb hbl hva
  | true => exact ac_Y _ _ _ _ _ _ _ _ _ blocks v2 b w hb hbl hva
end Go.Proofs.Ythjekiddjldehaa
