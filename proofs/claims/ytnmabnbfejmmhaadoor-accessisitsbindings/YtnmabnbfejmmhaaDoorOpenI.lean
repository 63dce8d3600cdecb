/-
  Numbers that came in, opened; what the card of AccessIsItsBindings asks.
-/
import Derived.Test.YtnmabnbfejmmhaaDoorOpenP
import Derived.Test.YtnmabnbfejmmhaaDoorLawIts
namespace Go.Proofs.YtnmabnbfejmmhaaDoor
open Go.ChangeShapes Go.WideShapes Go.ChangeAt Go.RowKit Go.Deep
theorem okI : kI.Ok := ⟨fun _ => rfl, by decide, fun x u hu => by simp only [kI, List.mem_cons, List.not_mem_nil, or_false] at hu; rcases hu with rfl; rfl, Tryd.underlying23, ⟨_, (by kernel_rfl : (Tryd.prog.info? 3).map (fun i => (i.zero, i.size, i.bytes)) = some (some (.int .i64 0), 1, 8)), rfl⟩, by decide⟩
/-- Numbers of 64 bits. -/
def InR (l : List Int) : Prop := (∀ y ∈ l, -9223372036854775808 ≤ y ∧ y ≤ 9223372036854775807) ∧ l.length * 8 ≤ 140737488355328
theorem oIntN {H : Type} {enc : TypeId × Value → H} {W : World} {fuel : Nat} {cs : List Value} {x : DataW H × List MemPlace} {T : TypeId} (hT : Tryd.prog.underlying T = some (.int .i64)) (h : DataW.trod enc Tryd.prog W 0 (fun _ => true) true fuel T cs = some x) :
    ∃ k : Int, cs = [.int .i64 k] ∧ -9223372036854775808 ≤ k ∧ k ≤ 9223372036854775807 := by
  obtain ⟨k, hk, _, w⟩ := DataW.trod_int hT h
  have := bounds_i64 w
  exact ⟨k, hk, this.1, by omega⟩
set_option maxRecDepth 100000 in
theorem open_nums {H : Type} {enc : TypeId × Value → H} {W : World} {base : Nat} {v : Value} {d : DataW H} {p : List MemPlace}
    (hv : Value.okWide Tryd.prog W .any base 23 v) (h : DataW.Trod enc Tryd.prog W 0 (fun _ => true) true 23 v d p)
    (hs : ∀ n ∈ d.weights Tryd.prog 23, n ≤ reachBytes) : ∃ l : List Int, Row kI W v l ∧ InR l := by
  obtain ⟨a0, len0, cap0, rfl⟩ := okWide_slice Tryd.underlying23 hv
  obtain ⟨fuel, hf⟩ := h
  obtain ⟨v, l, hc, hr, hg, hb⟩ := oRow kI okI (by kernel_rfl) (by kernel_rfl) (fun y => -9223372036854775808 ≤ y ∧ y ≤ 9223372036854775807) (fun _ _ _ h _ => oIntN Tryd.underlying3 h) (x := (d, p)) hf hs
  simp only [Value.cells, List.cons.injEq, and_true] at hc
  rw [hc]
  exact ⟨l, hr, hg, hb⟩
theorem accessIsItsBindings_walk (v : Value) (l : List Ac.Sp) (ov : Value) (os : List Int) (w : World) (hm : L.HasM w) (hv : Row Ac.kSp w v l) (hf : ∀ o ∈ l, o.Fit) (ho : Row kI w ov os) (_ : InR os) :
    Calls Tryd.prog 3 #[v, ov] w fun e w' => e = .returned (.bool true) ∧ Below w.heap.size w w' := Ac.its v l ov os w hm hv hf ho
end Go.Proofs.YtnmabnbfejmmhaaDoor
