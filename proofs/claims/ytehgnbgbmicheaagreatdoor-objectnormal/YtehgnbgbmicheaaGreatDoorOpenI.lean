/-
  Slices of numbers that came in, opened.
-/
import Derived.Test.YtehgnbgbmicheaaGreatDoorOpenB
namespace Go.Proofs.YtehgnbgbmicheaaGreatDoor
open Go.ChangeShapes Go.WideShapes Go.ChangeAt Go.RowKit Go.Deep
/-- int, int64 as kinds of element. -/
def kI : Kd Int := ⟨fun x => [.int .i64 x], 1, 3, 26, 8, 0⟩
def kJ : Kd Int := ⟨fun x => [.int .i64 x], 1, 2, 27, 8, 0⟩
theorem okI : kI.Ok := ⟨fun _ => rfl, by decide, fun x u hu => by simp only [kI, List.mem_cons, List.not_mem_nil, or_false] at hu; rcases hu with rfl; rfl, Tryz.underlying26, ⟨_, (by kernel_rfl : (Tryz.prog.info? 3).map (fun i => (i.zero, i.size, i.bytes)) = some (some (.int .i64 0), 1, 8)), rfl⟩, by decide⟩
theorem okJ : kJ.Ok := ⟨fun _ => rfl, by decide, fun x u hu => by simp only [kJ, List.mem_cons, List.not_mem_nil, or_false] at hu; rcases hu with rfl; rfl, Tryz.underlying27, ⟨_, (by kernel_rfl : (Tryz.prog.info? 2).map (fun i => (i.zero, i.size, i.bytes)) = some (some (.int .i64 0), 1, 8)), rfl⟩, by decide⟩
/-- Numbers of 64 bits. -/
def InR (l : List Int) : Prop := (∀ y ∈ l, -9223372036854775808 ≤ y ∧ y ≤ 9223372036854775807) ∧ l.length * 8 ≤ 140737488355328
set_option maxRecDepth 100000 in
theorem open_nums {H : Type} {enc : TypeId × Value → H} {W : World} {base : Nat} {v : Value} {d : DataW H} {p : List MemPlace}
    (hv : Value.okWide Tryz.prog W .any base 26 v) (h : DataW.Trod enc Tryz.prog W 0 (fun _ => true) true 26 v d p)
    (hs : ∀ n ∈ d.weights Tryz.prog 26, n ≤ reachBytes) : ∃ l : List Int, Row kI W v l ∧ InR l := by
  obtain ⟨a0, len0, cap0, rfl⟩ := okWide_slice Tryz.underlying26 hv
  obtain ⟨fuel, hf⟩ := h
  obtain ⟨v, l, hc, hr, hg, hb⟩ := oRow kI okI (by kernel_rfl) (by kernel_rfl) (fun y => -9223372036854775808 ≤ y ∧ y ≤ 9223372036854775807) (fun _ _ _ h _ => oInt Tryz.underlying3 h) (x := (d, p)) hf hs
  simp [Value.cells] at hc
  subst hc
  exact ⟨l, hr, hg, hb⟩
set_option maxRecDepth 100000 in
theorem open_nums64 {H : Type} {enc : TypeId × Value → H} {W : World} {base : Nat} {v : Value} {d : DataW H} {p : List MemPlace}
    (hv : Value.okWide Tryz.prog W .any base 27 v) (h : DataW.Trod enc Tryz.prog W 0 (fun _ => true) true 27 v d p)
    (hs : ∀ n ∈ d.weights Tryz.prog 27, n ≤ reachBytes) : ∃ l : List Int, Row kJ W v l ∧ InR l := by
  obtain ⟨a0, len0, cap0, rfl⟩ := okWide_slice Tryz.underlying27 hv
  obtain ⟨fuel, hf⟩ := h
  obtain ⟨v, l, hc, hr, hg, hb⟩ := oRow kJ okJ (by kernel_rfl) (by kernel_rfl) (fun y => -9223372036854775808 ≤ y ∧ y ≤ 9223372036854775807) (fun _ _ _ h _ => oInt Tryz.underlying2 h) (x := (d, p)) hf hs
  simp [Value.cells] at hc
  subst hc
  exact ⟨l, hr, hg, hb⟩
end Go.Proofs.YtehgnbgbmicheaaGreatDoor
