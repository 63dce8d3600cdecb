/-
  WatchReplays: what the second form's card asks.
-/
import Derived.Test.YtoocpbpdoaplgaaDoorLawReplays
import Derived.Test.YtoocpbpdoaplgaaDoorOpenWU
namespace Go.Proofs.YtoocpbpdoaplgaaDoor
open Go.RowKit
theorem watchReplays_walk (m : Wt.Ev) (kind : Int) (path : ByteArray) (nv : Value) (names : List ByteArray) (lv : Value) (l : List Wt.Ev) (w : World) (hG : Wt.Gl m w) (_ : -9223372036854775808 ≤ kind ∧ kind ≤ 9223372036854775807) (_ : path.size ≤ 1048576) (hN : Row Wt.kT w nv names) (hn : (∀ t ∈ names, t.size ≤ 1048576) ∧ names.length ≤ 1048576) (hL : Row Wt.kE w lv l) (he : (∀ e ∈ l, e.n.size ≤ 1048576 ∧ e.p.size ≤ 1048576) ∧ l.length ≤ 1048576) :
    Calls Tryd.prog 8 #[.int .i64 kind, .string path, nv, lv] w fun e w' => e = .returned (.bool true) ∧ Below w.heap.size w w' := Wt.replays_walk m kind path nv lv names l w hG hN hL hn.1 he.1 ⟨hn.2, he.2⟩
end Go.Proofs.YtoocpbpdoaplgaaDoor
