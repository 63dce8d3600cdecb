/-
  SCRIPTS THAT CAME IN, OPENED, under the second form's bound.
-/
import Derived.Test.YtodfmnbfbndkhaaGreatDoorLeHm
import Derived.Test.YtodfmnbfbndkhaaGreatDoorOpenOs
namespace Go.Proofs.YtodfmnbfbndkhaaGreatDoor
open Go.ChangeShapes Go.WideShapes Go.ChangeAt Go.RowKit Go.Deep
namespace Le
theorem stL6 {α : Type} {cs : List α} (h : cs.length = 6) : ∃ c0 c1 c2 c3 c4 c5, cs = [c0, c1, c2, c3, c4, c5] := by
  match cs, h with
  | [c0, c1, c2, c3, c4, c5], _ => exact ⟨c0, c1, c2, c3, c4, c5, rfl⟩
theorem stL19 {α : Type} {cs : List α} (h : cs.length = 19) : ∃ c0 c1 c2 c3 c4 c5 c6 c7 c8 c9 c10 c11 c12 c13 c14 c15 c16 c17 c18, cs = [c0, c1, c2, c3, c4, c5, c6, c7, c8, c9, c10, c11, c12, c13, c14, c15, c16, c17, c18] := by
  match cs, h with
  | [c0, c1, c2, c3, c4, c5, c6, c7, c8, c9, c10, c11, c12, c13, c14, c15, c16, c17, c18], _ => exact ⟨c0, c1, c2, c3, c4, c5, c6, c7, c8, c9, c10, c11, c12, c13, c14, c15, c16, c17, c18, rfl⟩
theorem bulkAggS {H : Type} {d : DataW H} {ds : List (DataW H)} {n : Nat} (h : Rows.uptoBulk (.agg ds) ≤ n) (hm : d ∈ ds) : Rows.uptoBulk d ≤ n := by
  have := bulk_mem hm
  simp only [Rows.uptoBulk] at h
  omega
set_option maxRecDepth 100000 in
theorem oSc {H : Type} {enc : TypeId × Value → H} {W : World} {fuel : Nat} {cs : List Value} {x : DataW H × List MemPlace} (hf : DataW.trod enc Tryz.prog W 0 (fun _ => true) true fuel 39 cs = some x) : ∃ a b : Int, cs = [.int .i64 a, .int .i64 b] := by
  obtain ⟨xs, n, _, hx, hl, hlen, hfl⟩ := DataW.trod_struct Tryz.underlying39 hf
  rw [show Tryz.prog.cellsOf 39 = 2 by kernel_rfl] at hl
  obtain ⟨y0, y1, rfl⟩ := oL2 hlen
  obtain ⟨c0, c1, hcs⟩ := oL2 hl
  have t0 := hfl 0 _ rfl
  have t1 := hfl 1 _ rfl
  rw [hcs] at t0 t1
  change DataW.trod enc Tryz.prog W 0 _ true n 3 (List.take (Tryz.prog.cellsOf 3) [c0, c1]) = some y0 at t0
  rw [show Tryz.prog.cellsOf 3 = 1 by kernel_rfl] at t0
  change DataW.trod enc Tryz.prog W 0 _ true n 3 (List.take (Tryz.prog.cellsOf 3) [c1]) = some y1 at t1
  rw [show Tryz.prog.cellsOf 3 = 1 by kernel_rfl] at t1
  simp only [List.take] at t0 t1
  obtain ⟨v0, e0, _⟩ := oInt Tryz.underlying3 t0
  obtain ⟨v1, e1, _⟩ := oInt Tryz.underlying3 t1
  simp only [List.cons.injEq, and_true] at e0 e1
  subst e0 e1
  exact ⟨v0, v1, hcs⟩
set_option maxRecDepth 100000 in
theorem oOpL {H : Type} {enc : TypeId × Value → H} {W : World} (fuel : Nat) (cs : List Value) (x : DataW H × List MemPlace) (hf : DataW.trod enc Tryz.prog W 0 (fun _ => true) true fuel 51 cs = some x)
    (hs : ∀ n ∈ x.1.weights Tryz.prog 51, n ≤ reachBytes) (hu : Rows.uptoBulk x.1 ≤ 1048576) : ∃ y : OpL, cs = kOpL.c y ∧ ((ObV W y.o.2.1.v y.o.2.2.v y.o.1 ∧ PSz y.o.1.ps ∧ y.o.1.p.size ≤ 140737488355328 ∧ OSz y.o.1) ∧ (ObV W y.p.2.1.v y.p.2.2.v y.p.1 ∧ PSz y.p.1.ps ∧ y.p.1.p.size ≤ 140737488355328 ∧ OSz y.p.1)) := by
  obtain ⟨xs, n, _, hx, hl, hlen, hfl⟩ := DataW.trod_struct Tryz.underlying51 hf
  rw [show Tryz.prog.cellsOf 51 = 19 by kernel_rfl] at hl
  obtain ⟨y0, y1, y2, y3, y4, y5, rfl⟩ := stL6 hlen
  obtain ⟨c0, c1, c2, c3, c4, c5, c6, c7, c8, c9, c10, c11, c12, c13, c14, c15, c16, c17, c18, hcs⟩ := stL19 hl
  have t0 := hfl 0 _ rfl
  have t1 := hfl 1 _ rfl
  have t2 := hfl 2 _ rfl
  have t3 := hfl 3 _ rfl
  have t4 := hfl 4 _ rfl
  have t5 := hfl 5 _ rfl
  rw [hcs] at t0 t1 t2 t3 t4 t5
  change DataW.trod enc Tryz.prog W 0 _ true n 4 (List.take (Tryz.prog.cellsOf 4) [c0, c1, c2, c3, c4, c5, c6, c7, c8, c9, c10, c11, c12, c13, c14, c15, c16, c17, c18]) = some y0 at t0
  rw [show Tryz.prog.cellsOf 4 = 1 by kernel_rfl] at t0
  change DataW.trod enc Tryz.prog W 0 _ true n 3 (List.take (Tryz.prog.cellsOf 3) [c1, c2, c3, c4, c5, c6, c7, c8, c9, c10, c11, c12, c13, c14, c15, c16, c17, c18]) = some y1 at t1
  rw [show Tryz.prog.cellsOf 3 = 1 by kernel_rfl] at t1
  change DataW.trod enc Tryz.prog W 0 _ true n 25 (List.take (Tryz.prog.cellsOf 25) [c2, c3, c4, c5, c6, c7, c8, c9, c10, c11, c12, c13, c14, c15, c16, c17, c18]) = some y2 at t2
  rw [show Tryz.prog.cellsOf 25 = 7 by kernel_rfl] at t2
  change DataW.trod enc Tryz.prog W 0 _ true n 25 (List.take (Tryz.prog.cellsOf 25) [c9, c10, c11, c12, c13, c14, c15, c16, c17, c18]) = some y3 at t3
  rw [show Tryz.prog.cellsOf 25 = 7 by kernel_rfl] at t3
  change DataW.trod enc Tryz.prog W 0 _ true n 39 (List.take (Tryz.prog.cellsOf 39) [c16, c17, c18]) = some y4 at t4
  rw [show Tryz.prog.cellsOf 39 = 2 by kernel_rfl] at t4
  change DataW.trod enc Tryz.prog W 0 _ true n 9 (List.take (Tryz.prog.cellsOf 9) [c18]) = some y5 at t5
  rw [show Tryz.prog.cellsOf 9 = 1 by kernel_rfl] at t5
  simp only [List.take] at t0 t1 t2 t3 t4 t5
  have hd := congrArg Prod.fst hx
  simp only at hd
  have hw : ∀ (j : Nat) (t : TypeId) (y : DataW H), [4, 3, 25, 25, 39, 9][j]? = some t → [y0.1, y1.1, y2.1, y3.1, y4.1, y5.1][j]? = some y → ∀ m ∈ y.weights Tryz.prog t, m ≤ reachBytes := fun j t y h1 h2 m hm => hs m (by
    rw [hd]
    simp only [DataW.weights, Tryz.underlying51]
    exact DataW.weights_mem_each (j := j) h1 h2 m hm)
  rw [hd] at hu
  obtain ⟨v0, e0, _⟩ := DataW.trod_bool Tryz.underlying4 t0
  obtain ⟨v1, e1, _⟩ := oInt Tryz.underlying3 t1
  obtain ⟨o2, e2, g2⟩ := oOb t2 (hw 2 _ _ rfl rfl) (bulkAggS hu (by simp))
  obtain ⟨o3, e3, g3⟩ := oOb t3 (hw 3 _ _ rfl rfl) (bulkAggS hu (by simp))
  obtain ⟨a4, b4, e4⟩ := oSc t4
  obtain ⟨v5, e5, _⟩ := oText t5 (hw 5 _ _ rfl rfl)
  simp only [kOb, Rb.c, List.cons.injEq, and_true] at e0 e1 e2 e3 e4 e5
  obtain ⟨f2, f3, f4, f5, f6, f7, f8⟩ := e2
  obtain ⟨f9, f10, f11, f12, f13, f14, f15⟩ := e3
  obtain ⟨f16, f17⟩ := e4
  subst e0 e1 f2 f3 f4 f5 f6 f7 f8 f9 f10 f11 f12 f13 f14 f15 f16 f17 e5
  exact ⟨⟨v0, v1, o2, o3, a4, b4, v5⟩, hcs, g2, g3⟩
set_option maxRecDepth 100000 in
theorem open_script {H : Type} {enc : TypeId × Value → H} {W : World} {base : Nat} {v : Value} {d : DataW H} {p : List MemPlace}
    (hv : Value.okWide Tryz.prog W .any base 44 v) (h : DataW.Trod enc Tryz.prog W 0 (fun _ => true) true 44 v d p)
    (hs : ∀ n ∈ d.weights Tryz.prog 44, n ≤ reachBytes) (hu : Rows.uptoBulk d ≤ 1048576) : ∃ l : List OpL, OpsAt W v l ∧ OzO l := by
  obtain ⟨a0, len0, cap0, rfl⟩ := okWide_slice Tryz.underlying44 hv
  obtain ⟨fuel, hf⟩ := h
  obtain ⟨v, l, e, hr, hg, _⟩ := oRowB kOpL okOpL (by kernel_rfl) (by kernel_rfl) (fun y => (ObV W y.o.2.1.v y.o.2.2.v y.o.1 ∧ PSz y.o.1.ps ∧ y.o.1.p.size ≤ 140737488355328 ∧ OSz y.o.1) ∧ (ObV W y.p.2.1.v y.p.2.2.v y.p.1 ∧ PSz y.p.1.ps ∧ y.p.1.p.size ≤ 140737488355328 ∧ OSz y.p.1)) (fun fuel cs x h hs hu => oOpL fuel cs x h hs hu) hf hs hu
  simp only [Value.cells, List.cons.injEq, and_true] at e
  rw [e]
  exact ⟨l, ⟨hr, fun x hx => (hg x hx).1.1, fun x hx => (hg x hx).2.1⟩, ⟨fun x hx => ⟨(hg x hx).1.2.1, (hg x hx).1.2.2.1, (hg x hx).1.2.2.2⟩, fun x hx => ⟨(hg x hx).2.2.1, (hg x hx).2.2.2.1, (hg x hx).2.2.2.2⟩⟩⟩
end Le
end Go.Proofs.YtodfmnbfbndkhaaGreatDoor
