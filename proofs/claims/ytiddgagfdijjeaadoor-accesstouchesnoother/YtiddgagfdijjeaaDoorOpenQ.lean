/-
  ONE STEP THAT CAME IN, OPENED; AccessTouchesNoOther's walk.
-/
import Derived.Test.YtiddgagfdijjeaaDoorLawTouch
import Derived.Test.YtiddgagfdijjeaaDoorOpenP
namespace Go.Proofs.YtiddgagfdijjeaaDoor
open Go.ChangeShapes Go.WideShapes Go.ChangeAt Go.RowKit Go.Deep
set_option maxRecDepth 100000 in
theorem open_step {H : Type} {enc : TypeId × Value → H} {W : World} {base : Nat} {v : Value} {d : DataW H} {p : List MemPlace}
    (hv : Value.okWide Tryd.prog W .any base 29 v) (h : DataW.Trod enc Tryd.prog W 0 (fun _ => true) true 29 v d p)
    (hs : ∀ n ∈ d.weights Tryd.prog 29, n ≤ reachBytes) : ∃ o : Ac.Sp, v = .agg o.cells.toArray ∧ o.Fit := by
  obtain ⟨cs, rfl, _⟩ := okWide_struct Tryd.underlying29 hv
  obtain ⟨fuel, hf⟩ := h
  have hf' : DataW.trod enc Tryd.prog W 0 (fun _ => true) true fuel 29 cs.toList = some (d, p) := hf
  obtain ⟨o, e, ho⟩ := oSp fuel cs.toList _ hf' hs
  refine ⟨o, ?_, ho⟩
  congr 1
  apply Array.ext'
  rw [e]
  rfl
theorem accessTouchesNoOther_walk (v : Value) (l : List Ac.Sp) (o : Ac.Sp) (s p : ByteArray) (w : World) (hm : L.HasM w) (hv : Row Ac.kSp w v l) (hf : ∀ o ∈ l, o.Fit) (ho : o.Fit) (_ : s.size ≤ 140737488351232) (_ : p.size ≤ 140737488351232) :
    Calls Tryd.prog 5 #[v, .agg o.cells.toArray, .string s, .string p] w fun e w' => e = .returned (.bool true) ∧ Below w.heap.size w w' := Ac.touches v l o s p w hm hv hf ho
end Go.Proofs.YtiddgagfdijjeaaDoor
