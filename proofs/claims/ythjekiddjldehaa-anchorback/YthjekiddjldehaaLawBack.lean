/-
  AnchorBack.
-/
import Derived.Test.YthjekiddjldehaaLawABN
import Derived.Test.YthjekiddjldehaaLawABZO
import Derived.Test.YthjekiddjldehaaLawABZB
import Derived.Test.YthjekiddjldehaaLawABZS
import Derived.Test.YthjekiddjldehaaAnG
namespace Go.Proofs.Ythjekiddjldehaa
open Go.RowKit Go.Maps
theorem u_of (a : Int) (h0 : 0 ≤ a) (h1 : a < 4294967296) : ∃ x, a = Sm.u x := Sm.u_of a h0 h1
theorem decR_cases (b : List UInt8) : (b.length ≠ 512 ∧ decR b = (zeroS, 61)) ∨ (b.length = 512 ∧ decR b = (zeroS, 2)) ∨ (b.length = 512 ∧ decR b = (seA b, 0) ∧ vaB (seA b) (seA b).blk = true ∧ layA (seA b) = b) := by
  by_cases h : b.length = 512
  · right
    by_cases q : vaB (seA b) (seA b).blk = true ∧ layA (seA b) = b
    · exact Or.inr ⟨h, by unfold decR; rw [if_neg (by rw [h]; simp), if_pos q], q⟩
    · exact Or.inl ⟨h, by unfold decR; rw [if_neg (by rw [h]; simp), if_neg q]⟩
  · exact Or.inl ⟨h, by unfold decR; rw [if_pos h]⟩
theorem anchorBack_walk (v0 : Value) (s : Sup) (at' : Int) (x : BitVec 32) (v3 : Value) (b : List UInt8) (w : World) (hs : Sd w v0 s) (_hs : RgS s)
    (ha : -9223372036854775808 ≤ at' ∧ at' < 9223372036854775808) (hb : Bytes w v3 b) (hbl : b.length ≤ 140737488351232) :
    Calls Try.prog 4 #[v0, .int .i64 at', .int .u32 (Sm.u x), v3] w fun e w' => e = .returned (.bool true) ∧ Below w.heap.size w w' := by
  have hs' : v0 = .agg s.arr := hs
  subst hs'
  clear hs _hs
  obtain ⟨xgen, xep, xblk, xlog, xst, xpl, xrt, xcnt, xver⟩ := s
  cases hva : vaB (Sup.mk xgen xep xblk xlog xst xpl xrt xcnt xver) xblk with
  | false =>
    rcases decR_cases b with ⟨h1, h2⟩ | ⟨h1, h2⟩ | ⟨_, h2, h3, h4⟩
    · exact ab_NS _ _ _ _ _ _ _ _ _ at' x v3 b w hb hbl hva h2 h1
    · exact ab_NB _ _ _ _ _ _ _ _ _ at' x v3 b w hb hbl hva h2 h1
    · exact ab_NO _ _ _ _ _ _ _ _ _ _ _ _ _ _ _ _ _ _ at' x v3 b w hb hbl hva h2 h3 h4
  | true =>
    rcases decR_cases b with ⟨h1, h2⟩ | ⟨h1, h2⟩ | ⟨_, h2, h3, h4⟩
    · exact ab_ZS _ _ _ _ _ _ _ _ _ at' x v3 b w hb hbl ha hva h2 h1
    · exact ab_ZB _ _ _ _ _ _ _ _ _ at' x v3 b w hb hbl ha hva h2 h1
    · exact ab_ZO _ _ _ _ _ _ _ _ _ _ _ _ _ _ _ _ _ _ at' x v3 b w hb hbl ha hva h2 h3 h4
end Go.Proofs.Ythjekiddjldehaa
