/-
  The document's read: of every text.
-/
import Derived.Test.YthbbdhhkamccbaaDoorRdY
import Derived.Test.YthbbdhhkamccbaaDoorRdN
namespace Go.Proofs.YthbbdhhkamccbaaDoor
open Go.RowKit
theorem refRead_any (s : ByteArray) (w : World) (hs : s.size ≤ 1048576) :
    Calls Tryd.prog 41 #[.string s] w fun e w' => RdR w.heap.size w' (rr s.data.toList) e ∧ Below w.heap.size w w' := by
  by_cases h : (rr s.data.toList).how = 1
  · exact refRead_y s w hs h
  · exact refRead_n s w hs h
end Go.Proofs.YthbbdhhkamccbaaDoor
