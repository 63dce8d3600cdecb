/-
  WatchPlays: what the second form's card asks; a script that came in, opened.
-/
import Derived.Test.YtfkoiehnkelpoaaDoorLawPlays
import Derived.Test.YtfkoiehnkelpoaaDoorOpenWU
namespace Go.Proofs.YtfkoiehnkelpoaaDoor
open Go.ChangeShapes Go.WideShapes Go.ChangeAt Go.RowKit Go.Deep
namespace Wt
theorem okO : kO.Ok := ⟨fun _ => rfl, by decide, fun x u hu => by simp only [kO, List.mem_cons, List.not_mem_nil, or_false] at hu; rcases hu with rfl | rfl | rfl | rfl | rfl <;> rfl, Tryd.underlying45, ⟨_, (by kernel_rfl : (Tryd.prog.info? 51).map (fun i => (i.zero, i.size, i.bytes)) = some (some (.agg #[.int .i64 0, .slice none 0 0, .int .i64 0, .string ⟨#[]⟩, .int .i64 0]), 5, 64)), rfl⟩, by decide⟩
end Wt
set_option maxRecDepth 100000 in
theorem oOpU {H : Type} {enc : TypeId × Value → H} {W : World} {fuel : Nat} {cs : List Value} {x : DataW H × List MemPlace} (hf : DataW.trod enc Tryd.prog W 0 (fun _ => true) true fuel 51 cs = some x)
    (hs : Rows.uptoBulk x.1 ≤ 1048576) : ∃ y : Wt.Op, cs = Wt.kO.c y ∧ y.Fit W := by
  obtain ⟨xs, n, _, hx, hl, hlen, hfl⟩ := DataW.trod_struct Tryd.underlying51 hf
  rw [show Tryd.prog.cellsOf 51 = 5 by kernel_rfl] at hl
  obtain ⟨y0, y1, y2, y3, y4, rfl⟩ := pL5 hlen
  obtain ⟨c0, c1, c2, c3, c4, hcs⟩ := pL5 hl
  have hd := congrArg Prod.fst hx
  simp only at hd
  rw [hd] at hs
  have t0 := hfl 0 _ rfl
  have t1 := hfl 1 _ rfl
  have t2 := hfl 2 _ rfl
  have t3 := hfl 3 _ rfl
  have t4 := hfl 4 _ rfl
  rw [hcs] at t0 t1 t2 t3 t4
  change DataW.trod enc Tryd.prog W 0 _ true n 3 (List.take (Tryd.prog.cellsOf 3) [c0, c1, c2, c3, c4]) = some y0 at t0
  rw [show Tryd.prog.cellsOf 3 = 1 by kernel_rfl] at t0
  change DataW.trod enc Tryd.prog W 0 _ true n 28 (List.take (Tryd.prog.cellsOf 28) [c1, c2, c3, c4]) = some y1 at t1
  rw [show Tryd.prog.cellsOf 28 = 1 by kernel_rfl] at t1
  change DataW.trod enc Tryd.prog W 0 _ true n 2 (List.take (Tryd.prog.cellsOf 2) [c2, c3, c4]) = some y2 at t2
  rw [show Tryd.prog.cellsOf 2 = 1 by kernel_rfl] at t2
  change DataW.trod enc Tryd.prog W 0 _ true n 9 (List.take (Tryd.prog.cellsOf 9) [c3, c4]) = some y3 at t3
  rw [show Tryd.prog.cellsOf 9 = 1 by kernel_rfl] at t3
  change DataW.trod enc Tryd.prog W 0 _ true n 3 (List.take (Tryd.prog.cellsOf 3) [c4]) = some y4 at t4
  rw [show Tryd.prog.cellsOf 3 = 1 by kernel_rfl] at t4
  simp only [List.take] at t0 t1 t2 t3 t4
  obtain ⟨v0, e0, _⟩ := DataW.trod_int Tryd.underlying3 t0
  obtain ⟨v1, l1, e1, h1, g1, b1⟩ := oRowU Wt.kE Wt.okE (by kernel_rfl) (fun e => e.n.size ≤ 1048576 ∧ e.p.size ≤ 1048576) (fun fuel cs x ht hw => oEvU ht hw) t1 (bulkAgg hs (by simp))
  obtain ⟨v2, e2, _⟩ := DataW.trod_int Tryd.underlying2 t2
  obtain ⟨v3, e3, s3⟩ := oTextU t3 (bulkAgg hs (by simp))
  obtain ⟨v4, e4, _⟩ := DataW.trod_int Tryd.underlying3 t4
  simp only [List.cons.injEq, and_true] at e0 e1 e2 e3 e4
  subst e0 e1 e2 e3 e4
  obtain ⟨a, cap, ev, -, -⟩ := h1.len
  subst ev
  exact ⟨⟨v0, ⟨a, l1.length, cap⟩, v2, v3, v4⟩, hcs, s3, l1, h1, b1, fun e he => (g1 e he).2⟩
set_option maxRecDepth 100000 in
theorem open_opsU {H : Type} {enc : TypeId × Value → H} {W : World} {base : Nat} {v : Value} {d : DataW H} {p : List MemPlace}
    (hv : Value.okWide Tryd.prog W .any base 45 v) (h : DataW.Trod enc Tryd.prog W 0 (fun _ => true) true 45 v d p)
    (hs : Rows.uptoBulk d ≤ 1048576) : ∃ l, Row Wt.kO W v l ∧ ((∀ o ∈ l, o.Fit W) ∧ l.length ≤ 1048576) := by
  obtain ⟨a0, len0, cap0, rfl⟩ := okWide_slice Tryd.underlying45 hv
  obtain ⟨fuel, hf⟩ := h
  obtain ⟨v, l, e, h1, h2, h3⟩ := oRowU Wt.kO Wt.okO (by kernel_rfl) (fun o => o.Fit W) (fun fuel cs x ht hw => oOpU ht hw) hf hs
  simp only [Value.cells, List.cons.injEq, and_true] at e
  rw [e]
  exact ⟨l, h1, h2, h3⟩
theorem watchPlays_walk (m : Wt.Ev) (version other : Int) (sv : Value) (os : List Wt.Op) (w : World) (hG : Wt.Gl m w) (_ : -9223372036854775808 ≤ version ∧ version ≤ 9223372036854775807) (_ : -9223372036854775808 ≤ other ∧ other ≤ 9223372036854775807) (hS : Row Wt.kO w sv os) (ho : (∀ o ∈ os, o.Fit w) ∧ os.length ≤ 1048576) :
    Calls Tryd.prog 5 #[.int .i64 version, .int .i64 other, sv] w fun e w' => e = .returned (.bool true) ∧ Below w.heap.size w w' := Wt.plays_walk m version other sv os w hG hS ho.1
end Go.Proofs.YtfkoiehnkelpoaaDoor
