/-
  OpenT, OpenB, Upto, OpenU, joined.
-/
import Derived.Test.YtodfmnbfbndkhaaGreatDoorScA
import Derived.Test.YtodfmnbfbndkhaaGreatDoorRows
import Derived.Lib.LaidU8
import Derived.ChangeSame
import Derived.OpenShut
import Derived.ProofKit
import Derived.Lay
import Derived.LaidOnce
import Derived.SevenTiedAt
import Derived.Test.YtodfmnbfbndkhaaGreatDoorScD
import Derived.SizedLaws
import Derived.Deep.Slices
import Derived.Test.YtodfmnbfbndkhaaGreatDoorScX
import Derived.Test.YtodfmnbfbndkhaaGreatDoorScN
section S0
namespace Go.Proofs.YtodfmnbfbndkhaaGreatDoor
open Go.ChangeShapes Go.WideShapes Go.ChangeAt Go.RowKit Go.Lib
theorem gNms : Tryz.prog.globalNamed "bursar/scope.names" = some 0 := by kernel_rfl
theorem tNms : (Tryz.prog.globals[0]?).map (·.type) = some 129 := by kernel_rfl
set_option maxRecDepth 100000 in
/-- A row of the table of kinds, read. -/
theorem row_of {W : World} {fuel : Nat} {cs : List Value} {x : DataW Unit × List MemPlace} {bs : List UInt8} {n : Int} (h : DataW.trod (fun _ => ()) Tryz.prog W 0 (fun _ => true) false fuel 128 cs = some x) (hx : x.1 = .agg [.lit (.string bs), .lit (.int .i64 n)]) :
    cs = [.string ⟨bs.toArray⟩, .int .i64 n] := by
  obtain ⟨y0, y1, m, rfl, hl, h0, h1⟩ := trod_struct2 Tryz.underlying128 h
  have e2 : Tryz.prog.cellsOf 128 = 2 := by kernel_rfl
  rw [e2] at hl
  match cs, hl with
  | [c0, c1], _ =>
    have es : Tryz.prog.cellsOf 9 = 1 := by kernel_rfl
    have eu : Tryz.prog.cellsOf 3 = 1 := by kernel_rfl
    change DataW.trod _ Tryz.prog W 0 _ false m 9 (List.take (Tryz.prog.cellsOf 9) [c0, c1]) = some y0 at h0
    change DataW.trod _ Tryz.prog W 0 _ false m 3 (List.take (Tryz.prog.cellsOf 3) [c1]) = some y1 at h1
    rw [es] at h0
    rw [eu] at h1
    obtain ⟨t, ht, q0, _⟩ := DataW.trod_string Tryz.underlying9 h0
    obtain ⟨k, hk, q1, _⟩ := DataW.trod_int Tryz.underlying3 h1
    simp only [List.take, List.cons.injEq, and_true] at ht hk
    subst ht hk q0 q1
    simp only [DataW.agg.injEq, List.cons.injEq, DataW.lit.injEq, Lit.string.injEq, Lit.int.injEq, true_and, and_true] at hx
    obtain ⟨hb, hn⟩ := hx
    rw [← hb, ← hn]
set_option maxRecDepth 100000 in
set_option maxRecDepth 100000 in
theorem nms_of {W : World} (h : VarReads Tryz.prog W "bursar/scope.names" Rows.laid_bursar_scope_names) : Nms W := by
  obtain ⟨g, t, cs, fuel, p, hg, ht, hvar, hd⟩ := h
  obtain rfl := Option.some.inj (gNms.symm.trans hg)
  obtain rfl := Option.some.inj (tNms.symm.trans ht)
  obtain ⟨xs, m, _, hx, hlen, hn, hel⟩ := DataW.trod_array Tryz.underlying129 hd
  have e2 : Tryz.prog.cellsOf 128 = 2 := by kernel_rfl
  have e12 : Tryz.prog.cellsOf 129 = 12 := by kernel_rfl
  rw [e12] at hlen
  simp only [e2] at hel
  have hl := congrArg Prod.fst hx
  simp only [Rows.laid_bursar_scope_names, DataW.agg.injEq] at hl
  have key : ∀ i, i < 6 → ∀ bs n, (xs.map (·.1))[i]? = some (.agg [.lit (.string bs), .lit (.int .i64 n)]) → cs[i * 2]? = some (.string ⟨bs.toArray⟩) ∧ cs[i * 2 + 1]? = some (.int .i64 n) := fun i hi bs n hxi => by
    have h1 := hel i hi
    rw [List.getElem?_map] at hxi
    obtain ⟨x, hxx, hx1⟩ := Option.map_eq_some_iff.1 hxi
    rw [hxx] at h1
    have hc := row_of h1 hx1
    have g0 := congrArg (·[0]?) hc
    have g1 := congrArg (·[1]?) hc
    simp only [List.getElem?_take, List.getElem?_drop] at g0 g1
    simp at g0 g1
    exact ⟨g0, g1⟩
  rw [← hl] at key
  have k0 := key 0 (by decide) [97, 108, 108] 1 rfl
  have k1 := key 1 (by decide) [98, 101, 115, 116] 1 rfl
  have k2 := key 2 (by decide) [110, 111, 116, 98, 101, 115, 116] 1 rfl
  have k3 := key 3 (by decide) [101, 110, 100, 115] 1 rfl
  have k4 := key 4 (by decide) [110, 111, 116, 101, 110, 100, 115] 1 rfl
  have k5 := key 5 (by decide) [112, 114, 105, 111, 114, 105, 116, 121, 61] 10 rfl
  have hcell := fun j => World.var?_cell hg hvar j
  intro k hk
  rw [hcell, hcell]
  match k, hk with
  | 0, _ => exact k0
  | 1, _ => exact k1
  | 2, _ => exact k2
  | 3, _ => exact k3
  | 4, _ => exact k4
  | 5, _ => exact k5
theorem sInt {H : Type} {enc : TypeId × Value → H} {W : World} {fuel : Nat} {cs : List Value} {x : DataW H × List MemPlace} (h : DataW.trod enc Tryz.prog W 0 (fun _ => true) true fuel 3 cs = some x) :
    ∃ k : Int, cs = [.int .i64 k] ∧ -9223372036854775808 ≤ k ∧ k ≤ 9223372036854775807 := by
  obtain ⟨k, hk, _, w⟩ := DataW.trod_int Tryz.underlying3 h
  have := bounds_i64 w
  exact ⟨k, hk, this.1, by omega⟩
theorem sL2 {α : Type} {cs : List α} (h : cs.length = 2) : ∃ c0 c1, cs = [c0, c1] := by
  match cs, h with
  | [c0, c1], _ => exact ⟨c0, c1, rfl⟩
set_option maxRecDepth 100000 in
theorem open_scope {H : Type} {enc : TypeId × Value → H} {W : World} {base : Nat} {v : Value} {d : DataW H} {p : List MemPlace}
    (hv : Value.okWide Tryz.prog W .any base 39 v) (h : DataW.Trod enc Tryz.prog W 0 (fun _ => true) true 39 v d p) :
    ∃ k a : Int, v = .agg #[.int .i64 k, .int .i64 a] ∧ (-9223372036854775808 ≤ k ∧ k ≤ 9223372036854775807) ∧ (-9223372036854775808 ≤ a ∧ a ≤ 9223372036854775807) := by
  obtain ⟨cs, rfl, _⟩ := okWide_struct Tryz.underlying39 hv
  obtain ⟨fuel, hf⟩ := h
  have hf' : DataW.trod enc Tryz.prog W 0 (fun _ => true) true fuel 39 cs.toList = some (d, p) := hf
  obtain ⟨xs, n, _, hx, hl, hlen, hfl⟩ := DataW.trod_struct Tryz.underlying39 hf'
  rw [show Tryz.prog.cellsOf 39 = 2 by kernel_rfl] at hl
  obtain ⟨y0, y1, rfl⟩ := sL2 hlen
  obtain ⟨c0, c1, hcs⟩ := sL2 hl
  have t0 := hfl 0 _ rfl
  have t1 := hfl 1 _ rfl
  rw [hcs] at t0 t1
  change DataW.trod enc Tryz.prog W 0 _ true n 3 (List.take (Tryz.prog.cellsOf 3) [c0, c1]) = some y0 at t0
  change DataW.trod enc Tryz.prog W 0 _ true n 3 (List.take (Tryz.prog.cellsOf 3) [c1]) = some y1 at t1
  rw [show Tryz.prog.cellsOf 3 = 1 by kernel_rfl] at t0 t1
  simp only [List.take] at t0 t1
  obtain ⟨va, ea, sa⟩ := sInt t0
  obtain ⟨vb, eb, sb⟩ := sInt t1
  simp only [List.cons.injEq, and_true] at ea eb
  subst ea eb
  refine ⟨va, vb, ?_, sa, sb⟩
  congr 1
  apply Array.ext'
  rw [hcs]
end Go.Proofs.YtodfmnbfbndkhaaGreatDoor
end S0

section S1
namespace Go.Proofs.YtodfmnbfbndkhaaGreatDoor
open Go.ChangeShapes Go.WideShapes Go.ChangeAt Go.RowKit Go.Deep
theorem sized_arg {H : Type} {P : Program} {ts : List TypeId} {ds : List (DataW H)} (h : (DataW.weightsEach P ts ds).all (· ≤ reachBytes) = true) {j : Nat} {t : TypeId} {d : DataW H} (ht : ts[j]? = some t) (hd : ds[j]? = some d) : ∀ n ∈ d.weights P t, n ≤ reachBytes := fun n hn => by
  have := List.all_eq_true.1 h _ (DataW.weights_mem_each ht hd n hn)
  simpa using this
theorem oStr_size (s : ByteArray) : s.data.toList.length = s.size := by simp
theorem oWeights_all {H : Type} {P : Program} {e : TypeId} {d : DataW H} {l : List (DataW H)} (h : d ∈ l) {n : Nat} (hn : n ∈ d.weights P e) : n ∈ DataW.weightsAll P e l := by
  induction l with
  | nil => simp at h
  | cons c l ih =>
    simp only [DataW.weightsAll, List.mem_append]
    rcases List.mem_cons.1 h with rfl | h
    · exact Or.inl hn
    · exact Or.inr (ih h)
theorem oCells_at {W : World} {a : Addr} {n : Nat} {cs : List Value} (h : W.cells? 0 a n = some cs) (j : Nat) (y : Value) (hy : cs[j]? = some y) : W.cell? (a.add j) = some y := by
  obtain ⟨_, h2, h3⟩ := World.cells?_some h
  have hj : j < cs.length := by
    rcases Nat.lt_or_ge j cs.length with q | q
    · exact q
    · rw [List.getElem?_eq_none q] at hy; simp at hy
  rw [h3 j (by omega)]; exact hy
theorem oText {H : Type} {enc : TypeId × Value → H} {W : World} {fuel : Nat} {cs : List Value} {x : DataW H × List MemPlace} (h : DataW.trod enc Tryz.prog W 0 (fun _ => true) true fuel 9 cs = some x)
    (hs : ∀ n ∈ x.1.weights Tryz.prog 9, n ≤ reachBytes) : ∃ t : ByteArray, cs = [.string t] ∧ t.size ≤ 140737488355328 := by
  obtain ⟨t, ht, hx, _⟩ := DataW.trod_string Tryz.underlying9 h
  refine ⟨t, ht, ?_⟩
  have := hs t.data.toList.length (by rw [hx]; simp [DataW.weights])
  rw [oStr_size] at this
  simp only [reachBytes] at this; omega
theorem oInt {H : Type} {enc : TypeId × Value → H} {W : World} {fuel : Nat} {cs : List Value} {x : DataW H × List MemPlace} {T : TypeId} (hT : Tryz.prog.underlying T = some (.int .i64)) (h : DataW.trod enc Tryz.prog W 0 (fun _ => true) true fuel T cs = some x) :
    ∃ k : Int, cs = [.int .i64 k] ∧ -9223372036854775808 ≤ k ∧ k ≤ 9223372036854775807 := by
  obtain ⟨k, hk, _, w⟩ := DataW.trod_int hT h
  have := bounds_i64 w
  exact ⟨k, hk, this.1, by omega⟩
set_option maxRecDepth 100000 in
/-- A slice of elements of a kind. -/
theorem oRow {α : Type} (K : Kd α) (ok : K.Ok) (hc : Tryz.prog.cellsOf K.t = K.k) (hby : Tryz.prog.bytesOf K.t = K.b) {H : Type} {enc : TypeId × Value → H} {W : World} (G : α → Prop)
    (el : ∀ (fuel : Nat) (cs : List Value) (x : DataW H × List MemPlace), DataW.trod enc Tryz.prog W 0 (fun _ => true) true fuel K.t cs = some x → (∀ n ∈ x.1.weights Tryz.prog K.t, n ≤ reachBytes) → ∃ y : α, cs = K.c y ∧ G y)
    {fuel : Nat} {cs : List Value} {x : DataW H × List MemPlace} (hf : DataW.trod enc Tryz.prog W 0 (fun _ => true) true fuel K.s cs = some x)
    (hs : ∀ n ∈ x.1.weights Tryz.prog K.s, n ≤ reachBytes) : ∃ v l, cs = [v] ∧ Row K W v l ∧ (∀ y ∈ l, G y) ∧ l.length * K.b ≤ 140737488355328 := by
  rcases open_slice ok.und hf with ⟨hcs, _⟩ | ⟨x, len0, cap0, m, n, D, Pl, hcs, _, hl, hm, hmm, hx, hrow⟩
  · exact ⟨_, [], hcs, Row.nil W, fun y hy => by simp at hy, by simp⟩
  · simp only [if_true] at hmm
    subst hmm
    have hd := congrArg Prod.fst hx
    simp only at hd
    rw [hd] at hs
    simp only [DataW.weights, ok.und] at hs
    have key : ∀ i, i < len0 → ∃ y : α, G y ∧ ∀ j z, (K.c y)[j]? = some z → W.cell? ((x.add (i * K.k)).add j) = some z := fun i hi => by
      obtain ⟨cs', hc', ht⟩ := hrow i (by omega)
      rw [hc] at hc'
      obtain ⟨y, rfl, hy⟩ := el _ _ _ ht (fun n hn => hs n (by
        simp only [List.mem_cons, List.mem_append]
        exact Or.inr (Or.inl (oWeights_all (List.mem_map.2 ⟨i, List.mem_range.2 hi, rfl⟩) hn))))
      exact ⟨y, hy, fun j z hz => oCells_at hc' j z hz⟩
    haveI : Inhabited α := ⟨K.z⟩
    obtain ⟨f, hf2⟩ := choose_lt key
    have hlen : ((List.range len0).map f).length = len0 := by simp
    have hget : ∀ k, k < len0 → ((List.range len0).map f).getD k K.z = f k := fun k hk => by simp [List.getD, hk]
    refine ⟨_, (List.range len0).map f, hcs, ⟨some x, _, by rw [hlen], by rw [hlen]; exact hl, hm, (fun h => by simp at h), fun k hk => ?_⟩, fun y hy => ?_, ?_⟩
    · rw [hlen] at hk
      obtain ⟨b, off, spot⟩ := x
      have hspot : spot = none := by
        have p0 : 0 < (K.c (f 0)).length := by rw [ok.len]; exact ok.pos
        have h1 := World.cell?_spot ((hf2 0 (by omega)).2 0 _ (List.getElem?_eq_getElem p0))
        simpa [Addr.add] using h1
      subst hspot
      refine ⟨b, off, rfl, fun j y hy => ?_⟩
      rw [hget k hk] at hy
      have := (hf2 k hk).2 j y hy
      rw [add_plain, add_plain] at this
      exact this
    · obtain ⟨i, hi, rfl⟩ := List.mem_map.1 hy
      exact (hf2 i (List.mem_range.1 hi)).1
    · have := hs _ (List.mem_cons_self)
      rw [hby] at this
      simp only [List.length_map, List.length_range, reachBytes] at this
      rw [hlen]
      exact Nat.le_trans (Nat.mul_le_mul_right K.b (Nat.le_add_right len0 _)) (Nat.le_trans this (by decide))
theorem oL2 {α : Type} {cs : List α} (h : cs.length = 2) : ∃ c0 c1, cs = [c0, c1] := by
  match cs, h with
  | [c0, c1], _ => exact ⟨c0, c1, rfl⟩
theorem oL3 {α : Type} {cs : List α} (h : cs.length = 3) : ∃ c0 c1 c2, cs = [c0, c1, c2] := by
  match cs, h with
  | [c0, c1, c2], _ => exact ⟨c0, c1, c2, rfl⟩
theorem oL4 {α : Type} {cs : List α} (h : cs.length = 4) : ∃ c0 c1 c2 c3, cs = [c0, c1, c2, c3] := by
  match cs, h with
  | [c0, c1, c2, c3], _ => exact ⟨c0, c1, c2, c3, rfl⟩
theorem oL5 {α : Type} {cs : List α} (h : cs.length = 5) : ∃ c0 c1 c2 c3 c4, cs = [c0, c1, c2, c3, c4] := by
  match cs, h with
  | [c0, c1, c2, c3, c4], _ => exact ⟨c0, c1, c2, c3, c4, rfl⟩
theorem oL6 {α : Type} {cs : List α} (h : cs.length = 6) : ∃ c0 c1 c2 c3 c4 c5, cs = [c0, c1, c2, c3, c4, c5] := by
  match cs, h with
  | [c0, c1, c2, c3, c4, c5], _ => exact ⟨c0, c1, c2, c3, c4, c5, rfl⟩
theorem oL7 {α : Type} {cs : List α} (h : cs.length = 7) : ∃ c0 c1 c2 c3 c4 c5 c6, cs = [c0, c1, c2, c3, c4, c5, c6] := by
  match cs, h with
  | [c0, c1, c2, c3, c4, c5, c6], _ => exact ⟨c0, c1, c2, c3, c4, c5, c6, rfl⟩
set_option maxRecDepth 100000 in
theorem oAm {H : Type} {enc : TypeId × Value → H} {W : World} {fuel : Nat} {cs : List Value} {x : DataW H × List MemPlace} (h : DataW.trod enc Tryz.prog W 0 (fun _ => true) true fuel 37 cs = some x) (hs : ∀ n ∈ x.1.weights Tryz.prog 37, n ≤ reachBytes) : ∃ y : Am, cs = kAm.c y ∧ y.fit := by
  obtain ⟨xs, n, _, hx, hl, hlen, hfl⟩ := DataW.trod_struct Tryz.underlying37 h
  rw [show Tryz.prog.cellsOf 37 = 2 by kernel_rfl] at hl
  obtain ⟨y0, y1, rfl⟩ := oL2 hlen
  obtain ⟨c0, c1, hcs⟩ := oL2 hl
  have t0 := hfl 0 _ rfl
  have t1 := hfl 1 _ rfl
  rw [hcs] at t0 t1
  change DataW.trod enc Tryz.prog W 0 _ true n 9 (List.take (Tryz.prog.cellsOf 9) [c0, c1]) = some y0 at t0
  rw [show Tryz.prog.cellsOf 9 = 1 by kernel_rfl] at t0
  change DataW.trod enc Tryz.prog W 0 _ true n 2 (List.take (Tryz.prog.cellsOf 2) [c1]) = some y1 at t1
  rw [show Tryz.prog.cellsOf 2 = 1 by kernel_rfl] at t1
  simp only [List.take] at t0 t1
  have hd := congrArg Prod.fst hx
  simp only at hd
  have hw : ∀ (j : Nat) (t : TypeId) (y : DataW H), [9, 2][j]? = some t → [y0.1, y1.1][j]? = some y → ∀ m ∈ y.weights Tryz.prog t, m ≤ reachBytes := fun j t y h1 h2 m hm => hs m (by
    rw [hd]
    simp only [DataW.weights, Tryz.underlying37]
    exact DataW.weights_mem_each (j := j) h1 h2 m hm)
  obtain ⟨v0, e0, s0⟩ := oText t0 (hw 0 _ _ rfl rfl)
  obtain ⟨v1, e1, s1⟩ := oInt Tryz.underlying2 t1
  simp only [List.cons.injEq, and_true] at e0 e1
  subst e0 e1
  exact ⟨⟨v0, v1⟩, hcs, s0, s1.1, s1.2⟩
set_option maxRecDepth 100000 in
theorem oLb {H : Type} {enc : TypeId × Value → H} {W : World} {fuel : Nat} {cs : List Value} {x : DataW H × List MemPlace} (h : DataW.trod enc Tryz.prog W 0 (fun _ => true) true fuel 225 cs = some x) (hs : ∀ n ∈ x.1.weights Tryz.prog 225, n ≤ reachBytes) : ∃ y : ByteArray × ByteArray, cs = kLb.c y ∧ (y.1.size ≤ 140737488355328 ∧ y.2.size ≤ 140737488355328) := by
  obtain ⟨xs, n, _, hx, hl, hlen, hfl⟩ := DataW.trod_struct Tryz.underlying225 h
  rw [show Tryz.prog.cellsOf 225 = 2 by kernel_rfl] at hl
  obtain ⟨y0, y1, rfl⟩ := oL2 hlen
  obtain ⟨c0, c1, hcs⟩ := oL2 hl
  have t0 := hfl 0 _ rfl
  have t1 := hfl 1 _ rfl
  rw [hcs] at t0 t1
  change DataW.trod enc Tryz.prog W 0 _ true n 9 (List.take (Tryz.prog.cellsOf 9) [c0, c1]) = some y0 at t0
  rw [show Tryz.prog.cellsOf 9 = 1 by kernel_rfl] at t0
  change DataW.trod enc Tryz.prog W 0 _ true n 9 (List.take (Tryz.prog.cellsOf 9) [c1]) = some y1 at t1
  rw [show Tryz.prog.cellsOf 9 = 1 by kernel_rfl] at t1
  simp only [List.take] at t0 t1
  have hd := congrArg Prod.fst hx
  simp only at hd
  have hw : ∀ (j : Nat) (t : TypeId) (y : DataW H), [9, 9][j]? = some t → [y0.1, y1.1][j]? = some y → ∀ m ∈ y.weights Tryz.prog t, m ≤ reachBytes := fun j t y h1 h2 m hm => hs m (by
    rw [hd]
    simp only [DataW.weights, Tryz.underlying225]
    exact DataW.weights_mem_each (j := j) h1 h2 m hm)
  obtain ⟨v0, e0, s0⟩ := oText t0 (hw 0 _ _ rfl rfl)
  obtain ⟨v1, e1, s1⟩ := oText t1 (hw 1 _ _ rfl rfl)
  simp only [List.cons.injEq, and_true] at e0 e1
  subst e0 e1
  exact ⟨(v0, v1), hcs, s0, s1⟩
theorem oAms {H : Type} {enc : TypeId × Value → H} {W : World} {fuel : Nat} {cs : List Value} {x : DataW H × List MemPlace} (h : DataW.trod enc Tryz.prog W 0 (fun _ => true) true fuel 33 cs = some x) (hs : ∀ n ∈ x.1.weights Tryz.prog 33, n ≤ reachBytes) : ∃ v l, cs = [v] ∧ Row kAm W v l ∧ (∀ y ∈ l, y.fit) ∧ l.length * kAm.b ≤ 140737488355328 :=
  oRow kAm okAm (by kernel_rfl) (by kernel_rfl) (fun y => y.fit) (fun _ _ _ h hs => oAm h hs) h hs
theorem oLbs {H : Type} {enc : TypeId × Value → H} {W : World} {fuel : Nat} {cs : List Value} {x : DataW H × List MemPlace} (h : DataW.trod enc Tryz.prog W 0 (fun _ => true) true fuel 22 cs = some x) (hs : ∀ n ∈ x.1.weights Tryz.prog 22, n ≤ reachBytes) : ∃ v l, cs = [v] ∧ Row kLb W v l ∧ (∀ y ∈ l, (y.1.size ≤ 140737488355328 ∧ y.2.size ≤ 140737488355328)) ∧ l.length * kLb.b ≤ 140737488355328 :=
  oRow kLb okLb (by kernel_rfl) (by kernel_rfl) (fun y => (y.1.size ≤ 140737488355328 ∧ y.2.size ≤ 140737488355328)) (fun _ _ _ h hs => oLb h hs) h hs
set_option maxRecDepth 100000 in
theorem oPt {H : Type} {enc : TypeId × Value → H} {W : World} {fuel : Nat} {cs : List Value} {x : DataW H × List MemPlace} (h : DataW.trod enc Tryz.prog W 0 (fun _ => true) true fuel 35 cs = some x) (hs : ∀ n ∈ x.1.weights Tryz.prog 35, n ≤ reachBytes) : ∃ y : Pr, cs = kPt.c y ∧ ∃ q : Pt, (y.n = q.n ∧ Row kAm W y.r.v q.r ∧ Row kAm W y.l.v q.l) ∧ (q.n.size ≤ 140737488355328 ∧ (∀ z ∈ q.r, z.fit) ∧ (∀ z ∈ q.l, z.fit)) ∧ q.r.length * 24 ≤ 140737488355328 ∧ q.l.length * 24 ≤ 140737488355328 := by
  obtain ⟨xs, n, _, hx, hl, hlen, hfl⟩ := DataW.trod_struct Tryz.underlying35 h
  rw [show Tryz.prog.cellsOf 35 = 3 by kernel_rfl] at hl
  obtain ⟨y0, y1, y2, rfl⟩ := oL3 hlen
  obtain ⟨c0, c1, c2, hcs⟩ := oL3 hl
  have t0 := hfl 0 _ rfl
  have t1 := hfl 1 _ rfl
  have t2 := hfl 2 _ rfl
  rw [hcs] at t0 t1 t2
  change DataW.trod enc Tryz.prog W 0 _ true n 9 (List.take (Tryz.prog.cellsOf 9) [c0, c1, c2]) = some y0 at t0
  rw [show Tryz.prog.cellsOf 9 = 1 by kernel_rfl] at t0
  change DataW.trod enc Tryz.prog W 0 _ true n 33 (List.take (Tryz.prog.cellsOf 33) [c1, c2]) = some y1 at t1
  rw [show Tryz.prog.cellsOf 33 = 1 by kernel_rfl] at t1
  change DataW.trod enc Tryz.prog W 0 _ true n 33 (List.take (Tryz.prog.cellsOf 33) [c2]) = some y2 at t2
  rw [show Tryz.prog.cellsOf 33 = 1 by kernel_rfl] at t2
  simp only [List.take] at t0 t1 t2
  have hd := congrArg Prod.fst hx
  simp only at hd
  have hw : ∀ (j : Nat) (t : TypeId) (y : DataW H), [9, 33, 33][j]? = some t → [y0.1, y1.1, y2.1][j]? = some y → ∀ m ∈ y.weights Tryz.prog t, m ≤ reachBytes := fun j t y h1 h2 m hm => hs m (by
    rw [hd]
    simp only [DataW.weights, Tryz.underlying35]
    exact DataW.weights_mem_each (j := j) h1 h2 m hm)
  obtain ⟨v0, e0, s0⟩ := oText t0 (hw 0 _ _ rfl rfl)
  obtain ⟨v1, l1, e1, r1, g1, b1⟩ := oAms t1 (hw 1 _ _ rfl rfl)
  obtain ⟨v2, l2, e2, r2, g2, b2⟩ := oAms t2 (hw 2 _ _ rfl rfl)
  simp only [List.cons.injEq, and_true] at e0 e1 e2
  subst e0 e1 e2
  obtain ⟨a1, n1, hv1, _⟩ := r1.len
  obtain ⟨a2, n2, hv2, _⟩ := r2.len
  refine ⟨⟨v0, ⟨a1, l1.length, n1⟩, ⟨a2, l2.length, n2⟩⟩, ?_, ⟨v0, l1, l2⟩, ⟨rfl, ?_, ?_⟩, ⟨s0, g1, g2⟩, b1, b2⟩
  · rw [hcs, hv1, hv2]; rfl
  · show Row kAm W (.slice a1 l1.length n1) l1; rw [← hv1]; exact r1
  · show Row kAm W (.slice a2 l2.length n2) l2; rw [← hv2]; exact r2
set_option maxRecDepth 100000 in
theorem oPts {H : Type} {enc : TypeId × Value → H} {W : World} {fuel : Nat} {cs : List Value} {x : DataW H × List MemPlace} (h : DataW.trod enc Tryz.prog W 0 (fun _ => true) true fuel 23 cs = some x) (hs : ∀ n ∈ x.1.weights Tryz.prog 23, n ≤ reachBytes) : ∃ v l, cs = [v] ∧ Pts W v l ∧ (∀ q ∈ l, (q.n.size ≤ 140737488355328 ∧ (∀ z ∈ q.r, z.fit) ∧ (∀ z ∈ q.l, z.fit)) ∧ q.r.length * 24 ≤ 140737488355328 ∧ q.l.length * 24 ≤ 140737488355328) ∧ l.length * 64 ≤ 140737488355328 := by
  obtain ⟨v, rs, hv, hr, hg, hb⟩ := oRow kPt okPt (by kernel_rfl) (by kernel_rfl) (fun y => ∃ q : Pt, (y.n = q.n ∧ Row kAm W y.r.v q.r ∧ Row kAm W y.l.v q.l) ∧ (q.n.size ≤ 140737488355328 ∧ (∀ z ∈ q.r, z.fit) ∧ (∀ z ∈ q.l, z.fit)) ∧ q.r.length * 24 ≤ 140737488355328 ∧ q.l.length * 24 ≤ 140737488355328) (fun _ _ _ h hs => oPt h hs) h hs
  have key : ∀ i, i < rs.length → ∃ q : Pt, ((rs.getD i kPt.z).n = q.n ∧ Row kAm W (rs.getD i kPt.z).r.v q.r ∧ Row kAm W (rs.getD i kPt.z).l.v q.l) ∧ (q.n.size ≤ 140737488355328 ∧ (∀ z ∈ q.r, z.fit) ∧ (∀ z ∈ q.l, z.fit)) ∧ q.r.length * 24 ≤ 140737488355328 ∧ q.l.length * 24 ≤ 140737488355328 := fun i hi => hg _ (getD_in hi)
  haveI : Inhabited Pt := ⟨⟨⟨#[]⟩, [], []⟩⟩
  obtain ⟨f, hf2⟩ := choose_lt key
  have hlen : ((List.range rs.length).map f).length = rs.length := by simp
  have hget : ∀ k, k < rs.length → ((List.range rs.length).map f).getD k ⟨⟨#[]⟩, [], []⟩ = f k := fun k hk => by simp [List.getD, hk]
  refine ⟨v, (List.range rs.length).map f, hv, ⟨rs, hr, hlen.symm, fun k hk => ?_⟩, fun q hq => ?_, by rw [hlen]; exact hb⟩
  · rw [hlen] at hk
    rw [hget k hk]
    exact (hf2 k hk).1
  · obtain ⟨i, hi, rfl⟩ := List.mem_map.1 hq
    exact (hf2 i (List.mem_range.1 hi)).2
set_option maxRecDepth 100000 in
theorem open_object {H : Type} {enc : TypeId × Value → H} {W : World} {base : Nat} {v : Value} {d : DataW H} {p : List MemPlace}
    (hv : Value.okWide Tryz.prog W .any base 25 v) (h : DataW.Trod enc Tryz.prog W 0 (fun _ => true) true 25 v d p)
    (hs : ∀ n ∈ d.weights Tryz.prog 25, n ≤ reachBytes) : ∃ (o : Ob) (ls ps : Value), v = o.val ls ps ∧ ObV W ls ps o ∧ o.Fit ∧ o.ls.length * 32 ≤ 140737488355328 ∧ o.ps.length * 64 ≤ 140737488355328 ∧ ∀ y ∈ o.ps, y.r.length * 24 ≤ 140737488355328 ∧ y.l.length * 24 ≤ 140737488355328 := by
  obtain ⟨cs, rfl, _⟩ := okWide_struct Tryz.underlying25 hv
  obtain ⟨fuel, hf⟩ := h
  have hf' : DataW.trod enc Tryz.prog W 0 (fun _ => true) true fuel 25 cs.toList = some (d, p) := hf
  obtain ⟨xs, n, _, hx, hl, hlen, hfl⟩ := DataW.trod_struct Tryz.underlying25 hf'
  rw [show Tryz.prog.cellsOf 25 = 7 by kernel_rfl] at hl
  obtain ⟨y0, y1, y2, y3, y4, y5, y6, rfl⟩ := oL7 hlen
  obtain ⟨c0, c1, c2, c3, c4, c5, c6, hcs⟩ := oL7 hl
  have t0 := hfl 0 _ rfl
  have t1 := hfl 1 _ rfl
  have t2 := hfl 2 _ rfl
  have t3 := hfl 3 _ rfl
  have t4 := hfl 4 _ rfl
  have t5 := hfl 5 _ rfl
  have t6 := hfl 6 _ rfl
  rw [hcs] at t0 t1 t2 t3 t4 t5 t6
  change DataW.trod enc Tryz.prog W 0 _ true n 9 (List.take (Tryz.prog.cellsOf 9) [c0, c1, c2, c3, c4, c5, c6]) = some y0 at t0
  rw [show Tryz.prog.cellsOf 9 = 1 by kernel_rfl] at t0
  change DataW.trod enc Tryz.prog W 0 _ true n 9 (List.take (Tryz.prog.cellsOf 9) [c1, c2, c3, c4, c5, c6]) = some y1 at t1
  rw [show Tryz.prog.cellsOf 9 = 1 by kernel_rfl] at t1
  change DataW.trod enc Tryz.prog W 0 _ true n 22 (List.take (Tryz.prog.cellsOf 22) [c2, c3, c4, c5, c6]) = some y2 at t2
  rw [show Tryz.prog.cellsOf 22 = 1 by kernel_rfl] at t2
  change DataW.trod enc Tryz.prog W 0 _ true n 3 (List.take (Tryz.prog.cellsOf 3) [c3, c4, c5, c6]) = some y3 at t3
  rw [show Tryz.prog.cellsOf 3 = 1 by kernel_rfl] at t3
  change DataW.trod enc Tryz.prog W 0 _ true n 2 (List.take (Tryz.prog.cellsOf 2) [c4, c5, c6]) = some y4 at t4
  rw [show Tryz.prog.cellsOf 2 = 1 by kernel_rfl] at t4
  change DataW.trod enc Tryz.prog W 0 _ true n 23 (List.take (Tryz.prog.cellsOf 23) [c5, c6]) = some y5 at t5
  rw [show Tryz.prog.cellsOf 23 = 1 by kernel_rfl] at t5
  change DataW.trod enc Tryz.prog W 0 _ true n 2 (List.take (Tryz.prog.cellsOf 2) [c6]) = some y6 at t6
  rw [show Tryz.prog.cellsOf 2 = 1 by kernel_rfl] at t6
  simp only [List.take] at t0 t1 t2 t3 t4 t5 t6
  have hd := congrArg Prod.fst hx
  simp only at hd
  have hw : ∀ (j : Nat) (t : TypeId) (y : DataW H), [9, 9, 22, 3, 2, 23, 2][j]? = some t → [y0.1, y1.1, y2.1, y3.1, y4.1, y5.1, y6.1][j]? = some y → ∀ m ∈ y.weights Tryz.prog t, m ≤ reachBytes := fun j t y h1 h2 m hm => hs m (by
    rw [hd]
    simp only [DataW.weights, Tryz.underlying25]
    exact DataW.weights_mem_each (j := j) h1 h2 m hm)
  obtain ⟨v0, e0, s0⟩ := oText t0 (hw 0 _ _ rfl rfl)
  obtain ⟨v1, e1, s1⟩ := oText t1 (hw 1 _ _ rfl rfl)
  obtain ⟨v2, l2, e2, r2, g2, b2⟩ := oLbs t2 (hw 2 _ _ rfl rfl)
  obtain ⟨v3, e3, s3⟩ := oInt Tryz.underlying3 t3
  obtain ⟨v4, e4, s4⟩ := oInt Tryz.underlying2 t4
  obtain ⟨v5, l5, e5, r5, g5, b5⟩ := oPts t5 (hw 5 _ _ rfl rfl)
  obtain ⟨v6, e6, s6⟩ := oInt Tryz.underlying2 t6
  simp only [List.cons.injEq, and_true] at e0 e1 e2 e3 e4 e5 e6
  subst e0 e1 e2 e3 e4 e5 e6
  have ev : Value.agg cs = .agg #[.string v0, .string v1, c2, .int .i64 v3, .int .i64 v4, c5, .int .i64 v6] := by
    congr 1
    apply Array.ext'
    rw [hcs]
  exact ⟨⟨v0, v1, l2, v3, v4, l5, v6⟩, _, _, ev, ⟨r2, r5⟩, ⟨⟨s0, s1⟩, g2, fun q hq => (g5 q hq).1, ⟨s3.1, s3.2, s4.1, s4.2, s6.1, s6.2⟩⟩, b2, b5, fun q hq => (g5 q hq).2⟩
end Go.Proofs.YtodfmnbfbndkhaaGreatDoor
end S1

section S2
namespace Go.Proofs.YtodfmnbfbndkhaaGreatDoor

theorem bulk_pos {H : Type} (d : DataW H) : 0 < Rows.uptoBulk d := by
  cases d with
  | lit l => cases l <;> simp [Rows.uptoBulk]
  | _ => simp [Rows.uptoBulk]
theorem bulk_len {H : Type} (l : List (DataW H)) : l.length ≤ Rows.uptoBulkAll l := by
  induction l with
  | nil => simp [Rows.uptoBulkAll]
  | cons d l ih => have := bulk_pos d; simp only [Rows.uptoBulkAll, List.length_cons]; omega
theorem bulk_mem {H : Type} {d : DataW H} {l : List (DataW H)} (h : d ∈ l) : Rows.uptoBulk d ≤ Rows.uptoBulkAll l := by
  induction l with
  | nil => simp at h
  | cons e l ih =>
    simp only [Rows.uptoBulkAll]
    rcases List.mem_cons.1 h with rfl | h
    · omega
    · have := ih h; omega
theorem upto_all {H : Type} {l : List (DataW H)} (hk : Rows.uptoSmall H l = true) : Rows.uptoBulkAll l ≤ 1048576 := of_decide_eq_true hk
theorem upto_mem {H : Type} {ds : List (DataW H)} {d : DataW H} (hk : Rows.uptoSmall H ds = true) (h : d ∈ ds) : Rows.uptoBulk d ≤ 1048576 :=
  Nat.le_trans (bulk_mem h) (upto_all hk)
theorem upto_slice {H : Type} {ds : List (DataW H)} (hk : Rows.uptoSmall H ds = true) {elems spare : List (DataW H)} (h : DataW.slice elems spare ∈ ds) : elems.length + spare.length ≤ 1048576 := by
  have h1 := bulk_mem h
  have h2 := upto_all hk
  have h3 := bulk_len elems
  have h4 := bulk_len spare
  simp only [Rows.uptoBulk] at h1
  omega
end Go.Proofs.YtodfmnbfbndkhaaGreatDoor
end S2

section S3
namespace Go.Proofs.YtodfmnbfbndkhaaGreatDoor
open Go.ChangeShapes Go.WideShapes Go.ChangeAt Go.RowKit Go.Deep
theorem uRow {α : Type} (K : Kd α) (ok : K.Ok) {H : Type} {enc : TypeId × Value → H} {W : World} {fuel : Nat} {a : Option Addr} {n c : Nat} {x : DataW H × List MemPlace} (h : DataW.trod enc Tryz.prog W 0 (fun _ => true) true fuel K.s [.slice a n c] = some x) : n ≤ Rows.uptoBulk x.1 := by
  rcases open_slice ok.und h with ⟨hcs, _⟩ | ⟨y, len0, cap0, m, k, D, Pl, hcs, _, hl, hm, hmm, hx, hrow⟩
  · simp only [List.cons.injEq, Value.slice.injEq, and_true] at hcs
    omega
  · simp only [List.cons.injEq, Value.slice.injEq, and_true] at hcs
    obtain ⟨_, rfl, _⟩ := hcs
    have hd := congrArg Prod.fst hx
    simp only at hd
    rw [hd]
    simp only [Rows.uptoBulk]
    have := bulk_len (H := H) ((List.range n).map D)
    simp only [List.length_map, List.length_range] at this
    omega
theorem uPart {H : Type} {d : DataW H} {ds : List (DataW H)} {n : Nat} (h : n ≤ Rows.uptoBulk d) (hm : d ∈ ds) : n ≤ Rows.uptoBulk (.agg ds) := by
  have := bulk_mem hm
  simp only [Rows.uptoBulk]
  omega
set_option maxRecDepth 100000 in
/-- A part: its two lists. -/
theorem uPt {H : Type} {enc : TypeId × Value → H} {W : World} {fuel : Nat} {y : Pr} {x : DataW H × List MemPlace} (h : DataW.trod enc Tryz.prog W 0 (fun _ => true) true fuel 35 (kPt.c y) = some x) : y.r.n + y.l.n ≤ Rows.uptoBulk x.1 := by
  obtain ⟨xs, n, _, hx, hl, hlen, hfl⟩ := DataW.trod_struct Tryz.underlying35 h
  obtain ⟨y0, y1, y2, rfl⟩ := oL3 hlen
  have t1 := hfl 1 _ rfl
  have t2 := hfl 2 _ rfl
  change DataW.trod enc Tryz.prog W 0 _ true n 33 (List.take (Tryz.prog.cellsOf 33) [.slice y.r.a y.r.n y.r.c, .slice y.l.a y.l.n y.l.c]) = some y1 at t1
  rw [show Tryz.prog.cellsOf 33 = 1 by kernel_rfl] at t1
  change DataW.trod enc Tryz.prog W 0 _ true n 33 (List.take (Tryz.prog.cellsOf 33) [.slice y.l.a y.l.n y.l.c]) = some y2 at t2
  rw [show Tryz.prog.cellsOf 33 = 1 by kernel_rfl] at t2
  simp only [List.take] at t1 t2
  have b1 := uRow kAm okAm t1
  have b2 := uRow kAm okAm t2
  have hd := congrArg Prod.fst hx
  simp only [List.map_cons, List.map_nil] at hd
  rw [hd]
  simp only [Rows.uptoBulk, Rows.uptoBulkAll]
  omega
theorem bulk_sum {H : Type} : ∀ (ps : List Pt) (D : Nat → DataW H), (∀ i, i < ps.length → (ps.getD i ⟨⟨#[]⟩, [], []⟩).r.length + (ps.getD i ⟨⟨#[]⟩, [], []⟩).l.length ≤ Rows.uptoBulk (D i)) → (ps.flatMap ptEs).length ≤ Rows.uptoBulkAll ((List.range ps.length).map D)
  | [], D, _ => by simp
  | p :: ps, D, h => by
    have h0 := h 0 (by simp)
    have ih := bulk_sum ps (fun i => D (i + 1)) (fun i hi => by
      have := h (i + 1) (by simpa using hi)
      rw [List.getD_cons_succ] at this
      exact this)
    rw [List.getD_cons_zero] at h0
    rw [List.flatMap_cons, List.length_append, List.length_cons, List.range_succ_eq_map, List.map_cons, List.map_map]
    simp only [Rows.uptoBulkAll]
    have e : (ptEs p).length = p.r.length + p.l.length := by simp [ptEs, pre]
    have e2 : ((fun i => D (i + 1)) : Nat → DataW H) = D ∘ Nat.succ := rfl
    rw [e2] at ih
    omega
theorem l3_of {cs : List Value} (h : cs.length = 3) {a b c : Value} (h0 : cs[0]? = some a) (h1 : cs[1]? = some b) (h2 : cs[2]? = some c) : cs = [a, b, c] := by
  match cs, h with
  | [x, y, z], _ => simp_all
set_option maxRecDepth 100000 in
/-- A list of parts: all lists together. -/
theorem uPts {H : Type} {enc : TypeId × Value → H} {W : World} {fuel : Nat} {a : Option Addr} {n c : Nat} {ps : List Pt} {x : DataW H × List MemPlace} (hP : Pts W (.slice a n c) ps) (h : DataW.trod enc Tryz.prog W 0 (fun _ => true) true fuel 23 [.slice a n c] = some x) : (ps.flatMap ptEs).length ≤ Rows.uptoBulk x.1 ∧ ps.length ≤ Rows.uptoBulk x.1 := by
  have hn : n = ps.length := by obtain ⟨_, _, e, _⟩ := hP.len; simp only [Value.slice.injEq] at e; exact e.2.1
  have hlen : ps.length ≤ Rows.uptoBulk x.1 := by rw [← hn]; exact uRow kPt okPt h
  refine ⟨?_, hlen⟩
  obtain ⟨rs, hr, hl, hel⟩ := hP
  rcases open_slice okPt.und h with ⟨hcs, _⟩ | ⟨y, len0, cap0, m, k, D, Pl, hcs, _, hl0, hm, hmm, hx, hrow⟩
  · simp only [List.cons.injEq, Value.slice.injEq, and_true] at hcs
    have : ps = [] := List.length_eq_zero_iff.1 (by omega)
    rw [this]; simp
  · simp only [List.cons.injEq, Value.slice.injEq, and_true] at hcs
    obtain ⟨rfl, rfl, rfl⟩ := hcs
    simp only [if_true] at hmm
    have hd := congrArg Prod.fst hx
    simp only at hd
    rw [hd]
    simp only [Rows.uptoBulk]
    have key := bulk_sum ps D (fun i hi => by
      obtain ⟨cs', hc', ht⟩ := hrow i (by omega)
      obtain ⟨b, off, e, hcell⟩ := hr.at i (by omega)
      simp only [Option.some.injEq] at e
      subst e
      have hc3 : Tryz.prog.cellsOf kPt.t = 3 := by kernel_rfl
      have hc2 := hc'
      rw [hc3] at hc2
      obtain ⟨_, q2, q3⟩ := World.cells?_some hc2
      have q : ∀ j, j < 3 → ∀ v, (kPt.c (rs.getD i kPt.z))[j]? = some v → cs'[j]? = some v := fun j hj v hv => by
        rw [← q3 j hj, add_plain, add_plain]
        exact hcell j v hv
      have ecs : cs' = kPt.c (rs.getD i kPt.z) := l3_of (by omega) (q 0 (by omega) _ rfl) (q 1 (by omega) _ rfl) (q 2 (by omega) _ rfl)
      rw [ecs] at ht
      have u := uPt ht
      obtain ⟨_, _, e1, _⟩ := (hel i hi).2.1.len
      obtain ⟨_, _, e2, _⟩ := (hel i hi).2.2.len
      simp only [Sl.v, Value.slice.injEq] at e1 e2
      rw [← e1.2.1, ← e2.2.1]
      exact u)
    rw [← hn] at key
    omega
set_option maxRecDepth 100000 in
theorem object_small {H : Type} {enc : TypeId × Value → H} {W : World} {d : DataW H} {p : List MemPlace} {ds : List (DataW H)} {o : Ob} {ls ps : Value}
    (hk : Rows.uptoSmall H ds = true) (hm : d ∈ ds) (h : DataW.Trod enc Tryz.prog W 0 (fun _ => true) true 25 (o.val ls ps) d p) (b : ObV W ls ps o ∧ o.Fit ∧ o.ls.length * 32 ≤ 140737488355328 ∧ o.ps.length * 64 ≤ 140737488355328 ∧ ∀ y ∈ o.ps, y.r.length * 24 ≤ 140737488355328 ∧ y.l.length * 24 ≤ 140737488355328) : ObV W ls ps o ∧ OSz o ∧ PSz o.ps ∧ o.ps.length ≤ 2000000 := by
  have hB : Rows.uptoBulk d ≤ 1048576 := upto_mem hk hm
  obtain ⟨pa, pc, hu, _, _⟩ := b.1.p.len
  subst hu
  obtain ⟨fuel, hf⟩ := h
  have hf2 : DataW.trod enc Tryz.prog W 0 (fun _ => true) true fuel 25 [.string o.p, .string o.n, ls, .int .i64 o.pr, .int .i64 o.dl, .slice pa o.ps.length pc, .int .i64 o.ver] = some (d, p) := hf
  obtain ⟨xs, n, _, hx, hl, hlen, hfl⟩ := DataW.trod_struct Tryz.underlying25 hf2
  obtain ⟨y0, y1, y2, y3, y4, y5, y6, rfl⟩ := oL7 hlen
  have t5 := hfl 5 _ rfl
  change DataW.trod enc Tryz.prog W 0 _ true n 23 (List.take (Tryz.prog.cellsOf 23) [.slice pa o.ps.length pc, .int .i64 o.ver]) = some y5 at t5
  rw [show Tryz.prog.cellsOf 23 = 1 by kernel_rfl] at t5
  simp only [List.take] at t5
  have u := uPts b.1.p t5
  have hd := congrArg Prod.fst hx
  simp only [List.map_cons, List.map_nil] at hd
  rw [hd] at hB
  have b1 := uPart u.1 (ds := [y0.1, y1.1, y2.1, y3.1, y4.1, y5.1, y6.1]) (by simp)
  have b2 := uPart u.2 (ds := [y0.1, y1.1, y2.1, y3.1, y4.1, y5.1, y6.1]) (by simp)
  refine ⟨b.1, ⟨b.2.2.1, b.2.2.2.1, b.2.2.2.2⟩, ⟨?_, fun q hq => (b.2.1.p q hq).2⟩, by omega⟩
  unfold obEs
  rw [List.length_cons]
  omega
set_option maxRecDepth 100000 in
theorem object_small2 {H : Type} {enc : TypeId × Value → H} {W : World} {d : DataW H} {p : List MemPlace} {ds : List (DataW H)} {o : Ob} {ls ps : Value}
    (hk : Rows.uptoSmall H ds = true) (hm : d ∈ ds) (h : DataW.Trod enc Tryz.prog W 0 (fun _ => true) true 25 (o.val ls ps) d p) (b : ObV W ls ps o ∧ o.Fit ∧ o.ls.length * 32 ≤ 140737488355328 ∧ o.ps.length * 64 ≤ 140737488355328 ∧ ∀ y ∈ o.ps, y.r.length * 24 ≤ 140737488355328 ∧ y.l.length * 24 ≤ 140737488355328) : ObV W ls ps o ∧ OSz o ∧ PSz o.ps ∧ o.ps.length ≤ 2000000 ∧ (obEs o.ps).length ≤ 2000000 := by
  have hB : Rows.uptoBulk d ≤ 1048576 := upto_mem hk hm
  obtain ⟨pa, pc, hu, _, _⟩ := b.1.p.len
  subst hu
  obtain ⟨fuel, hf⟩ := h
  have hf2 : DataW.trod enc Tryz.prog W 0 (fun _ => true) true fuel 25 [.string o.p, .string o.n, ls, .int .i64 o.pr, .int .i64 o.dl, .slice pa o.ps.length pc, .int .i64 o.ver] = some (d, p) := hf
  obtain ⟨xs, n, _, hx, hl, hlen, hfl⟩ := DataW.trod_struct Tryz.underlying25 hf2
  obtain ⟨y0, y1, y2, y3, y4, y5, y6, rfl⟩ := oL7 hlen
  have t5 := hfl 5 _ rfl
  change DataW.trod enc Tryz.prog W 0 _ true n 23 (List.take (Tryz.prog.cellsOf 23) [.slice pa o.ps.length pc, .int .i64 o.ver]) = some y5 at t5
  rw [show Tryz.prog.cellsOf 23 = 1 by kernel_rfl] at t5
  simp only [List.take] at t5
  have u := uPts b.1.p t5
  have hd := congrArg Prod.fst hx
  simp only [List.map_cons, List.map_nil] at hd
  rw [hd] at hB
  have b1 := uPart u.1 (ds := [y0.1, y1.1, y2.1, y3.1, y4.1, y5.1, y6.1]) (by simp)
  have b2 := uPart u.2 (ds := [y0.1, y1.1, y2.1, y3.1, y4.1, y5.1, y6.1]) (by simp)
  refine ⟨b.1, ⟨b.2.2.1, b.2.2.2.1, b.2.2.2.2⟩, ⟨?_, fun q hq => (b.2.1.p q hq).2⟩, by omega, ?_⟩
  all_goals
    unfold obEs
    rw [List.length_cons]
    omega
end Go.Proofs.YtodfmnbfbndkhaaGreatDoor
end S3
