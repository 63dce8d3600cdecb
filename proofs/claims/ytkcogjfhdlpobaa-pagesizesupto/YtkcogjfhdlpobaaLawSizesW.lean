/-
  The law PageSizes, in the card's words.
-/
import Derived.Test.YtkcogjfhdlpobaaLawSizes
namespace Go.Proofs.Ytkcogjfhdlpobaa
open Go.RowKit
theorem pageSizes_walk (v0 : Value) (ks : List ByteArray) (v1 : Value) (vs : List ByteArray) (v2 : Value) (cs : List Int) (odd : Int) (w : World) (h0 : Strs w v0 ks) (s0 : ks.length ≤ 1048576) (h1 : Strs w v1 vs) (_s1 : vs.length ≤ 1048576) (h2 : Ints w v2 cs) (s2 : In64 cs ∧ cs.length ≤ 1048576) (_ho : -9223372036854775808 ≤ odd ∧ odd ≤ 9223372036854775807) :
    Calls Try.prog 3 #[v0, v1, v2, .int .i64 odd] w fun e w' => e = .returned (.bool true) ∧ Below w.heap.size w w' :=
  pageSizes_core v0 ks v1 vs v2 cs odd w h0 (by omega) h1 h2 s2.1
end Go.Proofs.Ytkcogjfhdlpobaa
