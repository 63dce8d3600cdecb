/-
  THE TABLE, out of the row's condition; scopes that came in, opened.
-/
import Derived.Test.YtibjmmfodelhjaaDoorScA
import Derived.Test.YtibjmmfodelhjaaDoorRows
import Derived.Lib.LaidU8
import Derived.ChangeSame
import Derived.OpenShut
import Derived.ProofKit
import Derived.Lay
import Derived.LaidOnce
import Derived.SevenTiedAt
namespace Go.Proofs.YtibjmmfodelhjaaDoor
open Go.ChangeShapes Go.WideShapes Go.ChangeAt Go.RowKit Go.Lib
theorem gNms : Tryd.prog.globalNamed "bursar/scope.names" = some 0 := by kernel_rfl
theorem tNms : (Tryd.prog.globals[0]?).map (·.type) = some 67 := by kernel_rfl
set_option maxRecDepth 100000 in
/-- A row of the table of kinds, read. -/
theorem row_of {W : World} {fuel : Nat} {cs : List Value} {x : DataW Unit × List MemPlace} {bs : List UInt8} {n : Int} (h : DataW.trod (fun _ => ()) Tryd.prog W 0 (fun _ => true) false fuel 66 cs = some x) (hx : x.1 = .agg [.lit (.string bs), .lit (.int .i64 n)]) :
    cs = [.string ⟨bs.toArray⟩, .int .i64 n] := by
  obtain ⟨y0, y1, m, rfl, hl, h0, h1⟩ := trod_struct2 Tryd.underlying66 h
  have e2 : Tryd.prog.cellsOf 66 = 2 := by kernel_rfl
  rw [e2] at hl
  match cs, hl with
  | [c0, c1], _ =>
    have es : Tryd.prog.cellsOf 9 = 1 := by kernel_rfl
    have eu : Tryd.prog.cellsOf 3 = 1 := by kernel_rfl
    change DataW.trod _ Tryd.prog W 0 _ false m 9 (List.take (Tryd.prog.cellsOf 9) [c0, c1]) = some y0 at h0
    change DataW.trod _ Tryd.prog W 0 _ false m 3 (List.take (Tryd.prog.cellsOf 3) [c1]) = some y1 at h1
    rw [es] at h0
    rw [eu] at h1
    obtain ⟨t, ht, q0, _⟩ := DataW.trod_string Tryd.underlying9 h0
    obtain ⟨k, hk, q1, _⟩ := DataW.trod_int Tryd.underlying3 h1
    simp only [List.take, List.cons.injEq, and_true] at ht hk
    subst ht hk q0 q1
    simp only [DataW.agg.injEq, List.cons.injEq, DataW.lit.injEq, Lit.string.injEq, Lit.int.injEq, true_and, and_true] at hx
    obtain ⟨hb, hn⟩ := hx
    rw [← hb, ← hn]
set_option maxRecDepth 100000 in
set_option maxRecDepth 100000 in
theorem nms_of {W : World} (h : VarReads Tryd.prog W "bursar/scope.names" Rows.laid_bursar_scope_names) : Nms W := by
  obtain ⟨g, t, cs, fuel, p, hg, ht, hvar, hd⟩ := h
  obtain rfl := Option.some.inj (gNms.symm.trans hg)
  obtain rfl := Option.some.inj (tNms.symm.trans ht)
  obtain ⟨xs, m, _, hx, hlen, hn, hel⟩ := DataW.trod_array Tryd.underlying67 hd
  have e2 : Tryd.prog.cellsOf 66 = 2 := by kernel_rfl
  have e12 : Tryd.prog.cellsOf 67 = 12 := by kernel_rfl
  rw [e12] at hlen
  simp only [e2] at hel
  have hl := congrArg Prod.fst hx
  simp only [Rows.laid_bursar_scope_names, DataW.agg.injEq] at hl
  have key : ∀ i, i < 6 → ∀ bs n, (xs.map (·.1))[i]? = some (.agg [.lit (.string bs), .lit (.int .i64 n)]) → cs[i * 2]? = some (.string ⟨bs.toArray⟩) ∧ cs[i * 2 + 1]? = some (.int .i64 n) := fun i hi bs n hxi => by
    have h1 := hel i hi
    rw [List.getElem?_map] at hxi
    obtain ⟨x, hxx, hx1⟩ := Option.map_eq_some_iff.1 hxi
    rw [hxx] at h1
    have hc := row_of h1 hx1
    have g0 := congrArg (·[0]?) hc
    have g1 := congrArg (·[1]?) hc
    simp only [List.getElem?_take, List.getElem?_drop] at g0 g1
    simp at g0 g1
    exact ⟨g0, g1⟩
  rw [← hl] at key
  have k0 := key 0 (by decide) [97, 108, 108] 1 rfl
  have k1 := key 1 (by decide) [98, 101, 115, 116] 1 rfl
  have k2 := key 2 (by decide) [110, 111, 116, 98, 101, 115, 116] 1 rfl
  have k3 := key 3 (by decide) [101, 110, 100, 115] 1 rfl
  have k4 := key 4 (by decide) [110, 111, 116, 101, 110, 100, 115] 1 rfl
  have k5 := key 5 (by decide) [112, 114, 105, 111, 114, 105, 116, 121, 61] 10 rfl
  have hcell := fun j => World.var?_cell hg hvar j
  intro k hk
  rw [hcell, hcell]
  match k, hk with
  | 0, _ => exact k0
  | 1, _ => exact k1
  | 2, _ => exact k2
  | 3, _ => exact k3
  | 4, _ => exact k4
  | 5, _ => exact k5
theorem sInt {H : Type} {enc : TypeId × Value → H} {W : World} {fuel : Nat} {cs : List Value} {x : DataW H × List MemPlace} (h : DataW.trod enc Tryd.prog W 0 (fun _ => true) true fuel 3 cs = some x) :
    ∃ k : Int, cs = [.int .i64 k] ∧ -9223372036854775808 ≤ k ∧ k ≤ 9223372036854775807 := by
  obtain ⟨k, hk, _, w⟩ := DataW.trod_int Tryd.underlying3 h
  have := bounds_i64 w
  exact ⟨k, hk, this.1, by omega⟩
theorem sL2 {α : Type} {cs : List α} (h : cs.length = 2) : ∃ c0 c1, cs = [c0, c1] := by
  match cs, h with
  | [c0, c1], _ => exact ⟨c0, c1, rfl⟩
set_option maxRecDepth 100000 in
theorem open_scope {H : Type} {enc : TypeId × Value → H} {W : World} {base : Nat} {v : Value} {d : DataW H} {p : List MemPlace}
    (hv : Value.okWide Tryd.prog W .any base 41 v) (h : DataW.Trod enc Tryd.prog W 0 (fun _ => true) true 41 v d p) :
    ∃ k a : Int, v = .agg #[.int .i64 k, .int .i64 a] ∧ (-9223372036854775808 ≤ k ∧ k ≤ 9223372036854775807) ∧ (-9223372036854775808 ≤ a ∧ a ≤ 9223372036854775807) := by
  obtain ⟨cs, rfl, _⟩ := okWide_struct Tryd.underlying41 hv
  obtain ⟨fuel, hf⟩ := h
  have hf' : DataW.trod enc Tryd.prog W 0 (fun _ => true) true fuel 41 cs.toList = some (d, p) := hf
  obtain ⟨xs, n, _, hx, hl, hlen, hfl⟩ := DataW.trod_struct Tryd.underlying41 hf'
  rw [show Tryd.prog.cellsOf 41 = 2 by kernel_rfl] at hl
  obtain ⟨y0, y1, rfl⟩ := sL2 hlen
  obtain ⟨c0, c1, hcs⟩ := sL2 hl
  have t0 := hfl 0 _ rfl
  have t1 := hfl 1 _ rfl
  rw [hcs] at t0 t1
  change DataW.trod enc Tryd.prog W 0 _ true n 3 (List.take (Tryd.prog.cellsOf 3) [c0, c1]) = some y0 at t0
  change DataW.trod enc Tryd.prog W 0 _ true n 3 (List.take (Tryd.prog.cellsOf 3) [c1]) = some y1 at t1
  rw [show Tryd.prog.cellsOf 3 = 1 by kernel_rfl] at t0 t1
  simp only [List.take] at t0 t1
  obtain ⟨va, ea, sa⟩ := sInt t0
  obtain ⟨vb, eb, sb⟩ := sInt t1
  simp only [List.cons.injEq, and_true] at ea eb
  subst ea eb
  refine ⟨va, vb, ?_, sa, sb⟩
  congr 1
  apply Array.ext'
  rw [hcs]
end Go.Proofs.YtibjmmfodelhjaaDoor
