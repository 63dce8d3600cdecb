/-
  STEPS THAT CAME IN, OPENED, under the second form's bound.
-/
import Derived.Test.YthdofbjijpghfaaGreatDoorLawPlays
import Derived.Test.YthdofbjijpghfaaGreatDoorUpto
import Derived.ProofKit
import Derived.OpenShut
import Derived.SizedLaws
import Derived.Deep.Slices
import Derived.ChangeSame
namespace Go.Proofs.YthdofbjijpghfaaGreatDoor
open Go.ChangeShapes Go.WideShapes Go.ChangeAt Go.RowKit Go.Deep
theorem hasM {W : World} (h : W.ShapedOpen Tryz.prog) : L.HasM W := Tryz.laysM146.s1_3 W h
theorem sized_arg {H : Type} {P : Program} {ts : List TypeId} {ds : List (DataW H)} (h : (DataW.weightsEach P ts ds).all (· ≤ reachBytes) = true) {j : Nat} {t : TypeId} {d : DataW H} (ht : ts[j]? = some t) (hd : ds[j]? = some d) : ∀ n ∈ d.weights P t, n ≤ reachBytes := fun n hn => by
  have := List.all_eq_true.1 h _ (DataW.weights_mem_each ht hd n hn)
  simpa using this
theorem oStr_size (s : ByteArray) : s.data.toList.length = s.size := by simp
theorem oWeights_all {H : Type} {P : Program} {e : TypeId} {d : DataW H} {l : List (DataW H)} (h : d ∈ l) {n : Nat} (hn : n ∈ d.weights P e) : n ∈ DataW.weightsAll P e l := by
  induction l with
  | nil => simp at h
  | cons c l ih =>
    simp only [DataW.weightsAll, List.mem_append]
    rcases List.mem_cons.1 h with rfl | h
    · exact Or.inl hn
    · exact Or.inr (ih h)
theorem oCells_at {W : World} {a : Addr} {n : Nat} {cs : List Value} (h : W.cells? 0 a n = some cs) (j : Nat) (y : Value) (hy : cs[j]? = some y) : W.cell? (a.add j) = some y := by
  obtain ⟨_, h2, h3⟩ := World.cells?_some h
  have hj : j < cs.length := by
    rcases Nat.lt_or_ge j cs.length with q | q
    · exact q
    · rw [List.getElem?_eq_none q] at hy; simp at hy
  rw [h3 j (by omega)]; exact hy
theorem oInt {H : Type} {enc : TypeId × Value → H} {W : World} {fuel : Nat} {cs : List Value} {x : DataW H × List MemPlace} {T : TypeId} (hT : Tryz.prog.underlying T = some (.int .i64)) (h : DataW.trod enc Tryz.prog W 0 (fun _ => true) true fuel T cs = some x) :
    ∃ k : Int, cs = [.int .i64 k] ∧ -9223372036854775808 ≤ k ∧ k ≤ 9223372036854775807 := by
  obtain ⟨k, hk, _, w⟩ := DataW.trod_int hT h
  have := bounds_i64 w
  exact ⟨k, hk, this.1, by omega⟩
theorem bulk_two {H : Type} {l : List (DataW H)} (h : ∀ d ∈ l, 2 ≤ Rows.uptoBulk d) : l.length * 2 ≤ Rows.uptoBulkAll l := by
  induction l with
  | nil => simp [Rows.uptoBulkAll]
  | cons d l ih =>
    have h1 := h d (by simp)
    have h2 := ih (fun x hx => h x (by simp [hx]))
    simp only [Rows.uptoBulkAll, List.length_cons]
    omega
set_option maxRecDepth 100000 in
theorem oRowT {α : Type} (K : Kd α) (ok : K.Ok) (hc : Tryz.prog.cellsOf K.t = K.k) {H : Type} {enc : TypeId × Value → H} {W : World} (G : α → Prop)
    (el : ∀ (fuel : Nat) (cs : List Value) (x : DataW H × List MemPlace), DataW.trod enc Tryz.prog W 0 (fun _ => true) true fuel K.t cs = some x → Rows.uptoBulk x.1 ≤ 1048576 → 2 ≤ Rows.uptoBulk x.1 ∧ ∃ y : α, cs = K.c y ∧ G y)
    {fuel : Nat} {cs : List Value} {x : DataW H × List MemPlace} (hf : DataW.trod enc Tryz.prog W 0 (fun _ => true) true fuel K.s cs = some x)
    (hs : Rows.uptoBulk x.1 ≤ 1048576) : ∃ v l, cs = [v] ∧ Row K W v l ∧ (∀ y ∈ l, G y) ∧ l.length * 2 ≤ 1048576 := by
  rcases open_slice ok.und hf with ⟨hcs, _⟩ | ⟨x, len0, cap0, m, n, D, Pl, hcs, _, hl, hm, hmm, hx, hrow⟩
  · exact ⟨_, [], hcs, Row.nil W, fun y hy => by simp at hy, by simp⟩
  · simp only [if_true] at hmm
    subst hmm
    have hd := congrArg Prod.fst hx
    simp only at hd
    rw [hd] at hs
    simp only [Rows.uptoBulk] at hs
    have key : ∀ i, i < len0 → ∃ y : α, G y ∧ ∀ j z, (K.c y)[j]? = some z → W.cell? ((x.add (i * K.k)).add j) = some z := fun i hi => by
      obtain ⟨cs', hc', ht⟩ := hrow i (by omega)
      rw [hc] at hc'
      have hb := bulk_mem (H := H) (d := D i) (l := (List.range len0).map D) (List.mem_map.2 ⟨i, List.mem_range.2 hi, rfl⟩)
      obtain ⟨-, y, rfl, hy⟩ := el _ _ _ ht (by simp only; omega)
      exact ⟨y, hy, fun j z hz => oCells_at hc' j z hz⟩
    have hlen0 := bulk_two (H := H) (l := (List.range len0).map D) (fun d hd => by
      obtain ⟨i, hi, rfl⟩ := List.mem_map.1 hd
      obtain ⟨cs', hc', ht⟩ := hrow i (by have := List.mem_range.1 hi; omega)
      have hb := bulk_mem (H := H) (d := D i) (l := (List.range len0).map D) hd
      exact (el _ _ _ ht (by simp only; omega)).1)
    simp only [List.length_map, List.length_range] at hlen0
    haveI : Inhabited α := ⟨K.z⟩
    obtain ⟨f, hf2⟩ := choose_lt key
    have hlen : ((List.range len0).map f).length = len0 := by simp
    have hget : ∀ k, k < len0 → ((List.range len0).map f).getD k K.z = f k := fun k hk => by simp [List.getD, hk]
    refine ⟨_, (List.range len0).map f, hcs, ⟨some x, _, by rw [hlen], by rw [hlen]; exact hl, hm, (fun h => by simp at h), fun k hk => ?_⟩, fun y hy => ?_, ?_⟩
    · rw [hlen] at hk
      obtain ⟨b, off, spot⟩ := x
      have hspot : spot = none := by
        have p0 : 0 < (K.c (f 0)).length := by rw [ok.len]; exact ok.pos
        have h1 := World.cell?_spot ((hf2 0 (by omega)).2 0 _ (List.getElem?_eq_getElem p0))
        simpa [Addr.add] using h1
      subst hspot
      refine ⟨b, off, rfl, fun j y hy => ?_⟩
      rw [hget k hk] at hy
      have := (hf2 k hk).2 j y hy
      rw [add_plain, add_plain] at this
      exact this
    · obtain ⟨i, hi, rfl⟩ := List.mem_map.1 hy
      exact (hf2 i (List.mem_range.1 hi)).1
    · rw [hlen]; omega
theorem oTextU {H : Type} {enc : TypeId × Value → H} {W : World} {fuel : Nat} {cs : List Value} {x : DataW H × List MemPlace} (h : DataW.trod enc Tryz.prog W 0 (fun _ => true) true fuel 9 cs = some x)
    (hs : Rows.uptoBulk x.1 ≤ 1048576) : ∃ t : ByteArray, cs = [.string t] ∧ t.size ≤ 1048576 := by
  obtain ⟨t, ht, hx, _⟩ := DataW.trod_string Tryz.underlying9 h
  refine ⟨t, ht, ?_⟩
  rw [hx] at hs
  simp only [Rows.uptoBulk] at hs
  have e := oStr_size t
  omega
theorem bulkAgg {H : Type} {d : DataW H} {ds : List (DataW H)} {n : Nat} (h : Rows.uptoBulk (.agg ds) ≤ n) (hm : d ∈ ds) : Rows.uptoBulk d ≤ n := by
  have := bulk_mem hm
  simp only [Rows.uptoBulk] at h
  omega
theorem pL4 {α : Type} {cs : List α} (h : cs.length = 4) : ∃ c0 c1 c2 c3, cs = [c0, c1, c2, c3] := by
  match cs, h with
  | [c0, c1, c2, c3], _ => exact ⟨c0, c1, c2, c3, rfl⟩
set_option maxRecDepth 100000 in
theorem oBdU {H : Type} {enc : TypeId × Value → H} {W : World} {fuel : Nat} {cs : List Value} {x : DataW H × List MemPlace} (hf : DataW.trod enc Tryz.prog W 0 (fun _ => true) true fuel 28 cs = some x)
    (hs : Rows.uptoBulk x.1 ≤ 1048576) : 2 ≤ Rows.uptoBulk x.1 ∧ ∃ b : Bd, cs = [.string b.p, .string b.n, .string b.s, .int .i64 b.v] ∧ b.Fit ∧ b.p.size ≤ 1048576 := by
  obtain ⟨xs, n, _, hx, hl, hlen, hfl⟩ := DataW.trod_struct Tryz.underlying28 hf
  rw [show Tryz.prog.cellsOf 28 = 4 by kernel_rfl] at hl
  obtain ⟨y0, y1, y2, y3, rfl⟩ := pL4 hlen
  obtain ⟨c0, c1, c2, c3, hcs⟩ := pL4 hl
  have t0 := hfl 0 _ rfl
  have t1 := hfl 1 _ rfl
  have t2 := hfl 2 _ rfl
  have t3 := hfl 3 _ rfl
  rw [hcs] at t0 t1 t2 t3
  change DataW.trod enc Tryz.prog W 0 _ true n 9 (List.take (Tryz.prog.cellsOf 9) [c0, c1, c2, c3]) = some y0 at t0
  rw [show Tryz.prog.cellsOf 9 = 1 by kernel_rfl] at t0
  change DataW.trod enc Tryz.prog W 0 _ true n 9 (List.take (Tryz.prog.cellsOf 9) [c1, c2, c3]) = some y1 at t1
  rw [show Tryz.prog.cellsOf 9 = 1 by kernel_rfl] at t1
  change DataW.trod enc Tryz.prog W 0 _ true n 9 (List.take (Tryz.prog.cellsOf 9) [c2, c3]) = some y2 at t2
  rw [show Tryz.prog.cellsOf 9 = 1 by kernel_rfl] at t2
  change DataW.trod enc Tryz.prog W 0 _ true n 3 (List.take (Tryz.prog.cellsOf 3) [c3]) = some y3 at t3
  rw [show Tryz.prog.cellsOf 3 = 1 by kernel_rfl] at t3
  simp only [List.take] at t0 t1 t2 t3
  have hd := congrArg Prod.fst hx
  simp only at hd
  rw [hd] at hs
  have h2 : 2 ≤ Rows.uptoBulk x.1 := by
    rw [hd]
    have := bulk_pos y0.1
    simp only [Rows.uptoBulk, List.map_cons, List.map_nil, Rows.uptoBulkAll]
    omega
  obtain ⟨v0, e0, s0⟩ := oTextU t0 (bulkAgg hs (by simp))
  obtain ⟨v1, e1, s1⟩ := oTextU t1 (bulkAgg hs (by simp))
  obtain ⟨v2, e2, s2⟩ := oTextU t2 (bulkAgg hs (by simp))
  obtain ⟨v3, e3, s3⟩ := oInt Tryz.underlying3 t3
  simp only [List.cons.injEq, and_true] at e0 e1 e2 e3
  subst e0 e1 e2 e3
  exact ⟨h2, ⟨v0, v1, v2, v3⟩, hcs, ⟨⟨by simp only; omega, by simp only; omega, by simp only; omega⟩, s3⟩, s0⟩
theorem pL7 {α : Type} {cs : List α} (h : cs.length = 7) : ∃ c0 c1 c2 c3 c4 c5 c6, cs = [c0, c1, c2, c3, c4, c5, c6] := by
  match cs, h with
  | [c0, c1, c2, c3, c4, c5, c6], _ => exact ⟨c0, c1, c2, c3, c4, c5, c6, rfl⟩
theorem pL10 {α : Type} {cs : List α} (h : cs.length = 10) : ∃ c0 c1 c2 c3 c4 c5 c6 c7 c8 c9, cs = [c0, c1, c2, c3, c4, c5, c6, c7, c8, c9] := by
  match cs, h with
  | [c0, c1, c2, c3, c4, c5, c6, c7, c8, c9], _ => exact ⟨c0, c1, c2, c3, c4, c5, c6, c7, c8, c9, rfl⟩
set_option maxRecDepth 100000 in
theorem oSpU {H : Type} {enc : TypeId × Value → H} {W : World} (fuel : Nat) (cs : List Value) (x : DataW H × List MemPlace) (hf : DataW.trod enc Tryz.prog W 0 (fun _ => true) true fuel 30 cs = some x)
    (hs : Rows.uptoBulk x.1 ≤ 1048576) : 2 ≤ Rows.uptoBulk x.1 ∧ ∃ o : Ac.Sp, cs = Ac.kSp.c o ∧ (o.Fit ∧ o.b.p.size ≤ 1048576 ∧ o.p.size ≤ 1048576) := by
  obtain ⟨xs, n, _, hx, hl, hlen, hfl⟩ := DataW.trod_struct Tryz.underlying30 hf
  rw [show Tryz.prog.cellsOf 30 = 10 by kernel_rfl] at hl
  obtain ⟨y0, y1, y2, y3, y4, y5, y6, rfl⟩ := pL7 hlen
  obtain ⟨c0, c1, c2, c3, c4, c5, c6, c7, c8, c9, hcs⟩ := pL10 hl
  have t0 := hfl 0 _ rfl
  have t1 := hfl 1 _ rfl
  have t2 := hfl 2 _ rfl
  have t3 := hfl 3 _ rfl
  have t4 := hfl 4 _ rfl
  have t5 := hfl 5 _ rfl
  have t6 := hfl 6 _ rfl
  rw [hcs] at t0 t1 t2 t3 t4 t5 t6
  change DataW.trod enc Tryz.prog W 0 _ true n 4 (List.take (Tryz.prog.cellsOf 4) [c0, c1, c2, c3, c4, c5, c6, c7, c8, c9]) = some y0 at t0
  rw [show Tryz.prog.cellsOf 4 = 1 by kernel_rfl] at t0
  change DataW.trod enc Tryz.prog W 0 _ true n 3 (List.take (Tryz.prog.cellsOf 3) [c1, c2, c3, c4, c5, c6, c7, c8, c9]) = some y1 at t1
  rw [show Tryz.prog.cellsOf 3 = 1 by kernel_rfl] at t1
  change DataW.trod enc Tryz.prog W 0 _ true n 3 (List.take (Tryz.prog.cellsOf 3) [c2, c3, c4, c5, c6, c7, c8, c9]) = some y2 at t2
  rw [show Tryz.prog.cellsOf 3 = 1 by kernel_rfl] at t2
  change DataW.trod enc Tryz.prog W 0 _ true n 28 (List.take (Tryz.prog.cellsOf 28) [c3, c4, c5, c6, c7, c8, c9]) = some y3 at t3
  rw [show Tryz.prog.cellsOf 28 = 4 by kernel_rfl] at t3
  change DataW.trod enc Tryz.prog W 0 _ true n 9 (List.take (Tryz.prog.cellsOf 9) [c7, c8, c9]) = some y4 at t4
  rw [show Tryz.prog.cellsOf 9 = 1 by kernel_rfl] at t4
  change DataW.trod enc Tryz.prog W 0 _ true n 9 (List.take (Tryz.prog.cellsOf 9) [c8, c9]) = some y5 at t5
  rw [show Tryz.prog.cellsOf 9 = 1 by kernel_rfl] at t5
  change DataW.trod enc Tryz.prog W 0 _ true n 9 (List.take (Tryz.prog.cellsOf 9) [c9]) = some y6 at t6
  rw [show Tryz.prog.cellsOf 9 = 1 by kernel_rfl] at t6
  simp only [List.take] at t0 t1 t2 t3 t4 t5 t6
  have hd := congrArg Prod.fst hx
  simp only at hd
  rw [hd] at hs
  have h2 : 2 ≤ Rows.uptoBulk x.1 := by
    rw [hd]
    have := bulk_pos y0.1
    simp only [Rows.uptoBulk, List.map_cons, List.map_nil, Rows.uptoBulkAll]
    omega
  obtain ⟨v0, e0, _⟩ := DataW.trod_bool Tryz.underlying4 t0
  obtain ⟨v1, e1, s1⟩ := oInt Tryz.underlying3 t1
  obtain ⟨v2, e2, _⟩ := oInt Tryz.underlying3 t2
  obtain ⟨-, b3, e3, s3, z3⟩ := oBdU t3 (bulkAgg hs (by simp))
  obtain ⟨v4, e4, s4⟩ := oTextU t4 (bulkAgg hs (by simp))
  obtain ⟨v5, e5, s5⟩ := oTextU t5 (bulkAgg hs (by simp))
  obtain ⟨v6, e6, _⟩ := oTextU t6 (bulkAgg hs (by simp))
  simp only [List.cons.injEq, and_true] at e0 e1 e2 e3 e4 e5 e6
  obtain ⟨f3, f4, f5, f6⟩ := e3
  subst e0 e1 e2 f3 f4 f5 f6 e4 e5 e6
  exact ⟨h2, ⟨v0, v1, v2, b3, v4, v5, v6⟩, hcs, ⟨s3, by simp only; omega, by simp only; omega, s1⟩, z3, s4⟩
theorem okSp : Ac.kSp.Ok := ⟨fun _ => rfl, by decide, fun x u hu => by simp only [Ac.kSp, Ac.Sp.cells, List.mem_cons, List.not_mem_nil, or_false] at hu; rcases hu with rfl | rfl | rfl | rfl | rfl | rfl | rfl | rfl | rfl | rfl <;> rfl, Tryz.underlying22, ⟨.agg (Ac.kSp.c Ac.kSp.z).toArray, by kernel_rfl, rfl⟩, by decide⟩
set_option maxRecDepth 100000 in
theorem open_stepsU {H : Type} {enc : TypeId × Value → H} {W : World} {base : Nat} {v : Value} {d : DataW H} {p : List MemPlace}
    (hv : Value.okWide Tryz.prog W .any base 22 v) (h : DataW.Trod enc Tryz.prog W 0 (fun _ => true) true 22 v d p)
    (hs : Rows.uptoBulk d ≤ 1048576) : ∃ l, Row Ac.kSp W v l ∧ ((∀ o ∈ l, o.Fit ∧ o.b.p.size ≤ 1048576 ∧ o.p.size ≤ 1048576) ∧ l.length * 2 ≤ 1048576) := by
  obtain ⟨a0, len0, cap0, rfl⟩ := okWide_slice Tryz.underlying22 hv
  obtain ⟨fuel, hf⟩ := h
  obtain ⟨v, l, e, h1, h2, h3⟩ := oRowT Ac.kSp okSp (by kernel_rfl) (fun o => o.Fit ∧ o.b.p.size ≤ 1048576 ∧ o.p.size ≤ 1048576) (fun fuel cs x ht hw => oSpU fuel cs x ht hw) hf hs
  simp only [Value.cells, List.cons.injEq, and_true] at e
  rw [e]
  exact ⟨l, h1, h2, h3⟩
theorem accessPlays_walk (v : Value) (l : List Ac.Sp) (w : World) (hm : L.HasM w) (hv : Row Ac.kSp w v l) (hs : (∀ o ∈ l, o.Fit ∧ o.b.p.size ≤ 1048576 ∧ o.p.size ≤ 1048576) ∧ l.length * 2 ≤ 1048576) :
    Calls Tryz.prog 3 #[v] w fun e w' => e = .returned (.bool true) ∧ Below w.heap.size w w' := Ac.all_plays v l w hm hv hs.1 (by omega)
end Go.Proofs.YthdofbjijpghfaaGreatDoor
