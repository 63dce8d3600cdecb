/-
  WHAT THE SECOND FORM'S BOUND GIVES: texts and events that came in.
-/
import Derived.Test.YtfkoiehnkelpoaaDoorOpenW
import Derived.Test.YtfkoiehnkelpoaaDoorUpto
import Derived.Test.YtfkoiehnkelpoaaDoorWtR
namespace Go.Proofs.YtfkoiehnkelpoaaDoor
open Go.ChangeShapes Go.WideShapes Go.ChangeAt Go.RowKit Go.Deep
set_option maxRecDepth 100000 in
theorem oRowU {α : Type} (K : Kd α) (ok : K.Ok) (hc : Tryd.prog.cellsOf K.t = K.k) {H : Type} {enc : TypeId × Value → H} {W : World} (G : α → Prop)
    (el : ∀ (fuel : Nat) (cs : List Value) (x : DataW H × List MemPlace), DataW.trod enc Tryd.prog W 0 (fun _ => true) true fuel K.t cs = some x → Rows.uptoBulk x.1 ≤ 1048576 → ∃ y : α, cs = K.c y ∧ G y)
    {fuel : Nat} {cs : List Value} {x : DataW H × List MemPlace} (hf : DataW.trod enc Tryd.prog W 0 (fun _ => true) true fuel K.s cs = some x)
    (hs : Rows.uptoBulk x.1 ≤ 1048576) : ∃ v l, cs = [v] ∧ Row K W v l ∧ (∀ y ∈ l, G y) ∧ l.length ≤ 1048576 := by
  rcases open_slice ok.und hf with ⟨hcs, _⟩ | ⟨x, len0, cap0, m, n, D, Pl, hcs, _, hl, hm, hmm, hx, hrow⟩
  · exact ⟨_, [], hcs, Row.nil W, fun y hy => by simp at hy, by simp⟩
  · simp only [if_true] at hmm
    subst hmm
    have hd := congrArg Prod.fst hx
    simp only at hd
    rw [hd] at hs
    simp only [Rows.uptoBulk] at hs
    have hlen0 := bulk_len (H := H) ((List.range len0).map D)
    simp only [List.length_map, List.length_range] at hlen0
    have key : ∀ i, i < len0 → ∃ y : α, G y ∧ ∀ j z, (K.c y)[j]? = some z → W.cell? ((x.add (i * K.k)).add j) = some z := fun i hi => by
      obtain ⟨cs', hc', ht⟩ := hrow i (by omega)
      rw [hc] at hc'
      have hb := bulk_mem (H := H) (d := D i) (l := (List.range len0).map D) (List.mem_map.2 ⟨i, List.mem_range.2 hi, rfl⟩)
      obtain ⟨y, rfl, hy⟩ := el _ _ _ ht (by simp only; omega)
      exact ⟨y, hy, fun j z hz => oCells_at hc' j z hz⟩
    haveI : Inhabited α := ⟨K.z⟩
    obtain ⟨f, hf2⟩ := choose_lt key
    have hlen : ((List.range len0).map f).length = len0 := by simp
    have hget : ∀ k, k < len0 → ((List.range len0).map f).getD k K.z = f k := fun k hk => by simp [List.getD, hk]
    refine ⟨_, (List.range len0).map f, hcs, ⟨some x, _, by rw [hlen], by rw [hlen]; exact hl, hm, (fun h => by simp at h), fun k hk => ?_⟩, fun y hy => ?_, ?_⟩
    · rw [hlen] at hk
      obtain ⟨b, off, spot⟩ := x
      have hspot : spot = none := by
        have p0 : 0 < (K.c (f 0)).length := by rw [ok.len]; exact ok.pos
        have h1 := World.cell?_spot ((hf2 0 (by omega)).2 0 _ (List.getElem?_eq_getElem p0))
        simpa [Addr.add] using h1
      subst hspot
      refine ⟨b, off, rfl, fun j y hy => ?_⟩
      rw [hget k hk] at hy
      have := (hf2 k hk).2 j y hy
      rw [add_plain, add_plain] at this
      exact this
    · obtain ⟨i, hi, rfl⟩ := List.mem_map.1 hy
      exact (hf2 i (List.mem_range.1 hi)).1
    · rw [hlen]; omega
theorem oTextU {H : Type} {enc : TypeId × Value → H} {W : World} {fuel : Nat} {cs : List Value} {x : DataW H × List MemPlace} (h : DataW.trod enc Tryd.prog W 0 (fun _ => true) true fuel 9 cs = some x)
    (hs : Rows.uptoBulk x.1 ≤ 1048576) : ∃ t : ByteArray, cs = [.string t] ∧ t.size ≤ 1048576 := by
  obtain ⟨t, ht, hx, _⟩ := DataW.trod_string Tryd.underlying9 h
  refine ⟨t, ht, ?_⟩
  rw [hx] at hs
  simp only [Rows.uptoBulk] at hs
  have e := oStr_size t
  omega
theorem bulkAgg {H : Type} {d : DataW H} {ds : List (DataW H)} {n : Nat} (h : Rows.uptoBulk (.agg ds) ≤ n) (hm : d ∈ ds) : Rows.uptoBulk d ≤ n := by
  have := bulk_mem hm
  simp only [Rows.uptoBulk] at h
  omega
set_option maxRecDepth 100000 in
theorem oEvU {H : Type} {enc : TypeId × Value → H} {W : World} {fuel : Nat} {cs : List Value} {x : DataW H × List MemPlace} (hf : DataW.trod enc Tryd.prog W 0 (fun _ => true) true fuel 33 cs = some x)
    (hs : Rows.uptoBulk x.1 ≤ 1048576) : ∃ y : Wt.Ev, cs = Wt.kE.c y ∧ y.n.size ≤ 1048576 ∧ y.p.size ≤ 1048576 := by
  obtain ⟨xs, n, _, hx, hl, hlen, hfl⟩ := DataW.trod_struct Tryd.underlying33 hf
  rw [show Tryd.prog.cellsOf 33 = 5 by kernel_rfl] at hl
  obtain ⟨y0, y1, y2, y3, y4, rfl⟩ := pL5 hlen
  obtain ⟨c0, c1, c2, c3, c4, hcs⟩ := pL5 hl
  have hd := congrArg Prod.fst hx
  simp only at hd
  rw [hd] at hs
  have t0 := hfl 0 _ rfl
  have t1 := hfl 1 _ rfl
  have t2 := hfl 2 _ rfl
  have t3 := hfl 3 _ rfl
  have t4 := hfl 4 _ rfl
  rw [hcs] at t0 t1 t2 t3 t4
  change DataW.trod enc Tryd.prog W 0 _ true n 2 (List.take (Tryd.prog.cellsOf 2) [c0, c1, c2, c3, c4]) = some y0 at t0
  rw [show Tryd.prog.cellsOf 2 = 1 by kernel_rfl] at t0
  change DataW.trod enc Tryd.prog W 0 _ true n 3 (List.take (Tryd.prog.cellsOf 3) [c1, c2, c3, c4]) = some y1 at t1
  rw [show Tryd.prog.cellsOf 3 = 1 by kernel_rfl] at t1
  change DataW.trod enc Tryd.prog W 0 _ true n 4 (List.take (Tryd.prog.cellsOf 4) [c2, c3, c4]) = some y2 at t2
  rw [show Tryd.prog.cellsOf 4 = 1 by kernel_rfl] at t2
  change DataW.trod enc Tryd.prog W 0 _ true n 9 (List.take (Tryd.prog.cellsOf 9) [c3, c4]) = some y3 at t3
  rw [show Tryd.prog.cellsOf 9 = 1 by kernel_rfl] at t3
  change DataW.trod enc Tryd.prog W 0 _ true n 9 (List.take (Tryd.prog.cellsOf 9) [c4]) = some y4 at t4
  rw [show Tryd.prog.cellsOf 9 = 1 by kernel_rfl] at t4
  simp only [List.take] at t0 t1 t2 t3 t4
  obtain ⟨v0, e0, _⟩ := DataW.trod_int Tryd.underlying2 t0
  obtain ⟨v1, e1, _⟩ := DataW.trod_int Tryd.underlying3 t1
  obtain ⟨v2, e2, _⟩ := DataW.trod_bool Tryd.underlying4 t2
  obtain ⟨v3, e3, s3⟩ := oTextU t3 (bulkAgg hs (by simp))
  obtain ⟨v4, e4, s4⟩ := oTextU t4 (bulkAgg hs (by simp))
  simp only [List.cons.injEq, and_true] at e0 e1 e2 e3 e4
  subst e0 e1 e2 e3 e4
  exact ⟨⟨v0, v1, v2, v3, v4⟩, hcs, s4, s3⟩
set_option maxRecDepth 100000 in
theorem open_textsU {H : Type} {enc : TypeId × Value → H} {W : World} {base : Nat} {v : Value} {d : DataW H} {p : List MemPlace}
    (hv : Value.okWide Tryd.prog W .any base 53 v) (h : DataW.Trod enc Tryd.prog W 0 (fun _ => true) true 53 v d p)
    (hs : Rows.uptoBulk d ≤ 1048576) : ∃ l, Row Wt.kT W v l ∧ (∀ t ∈ l, t.size ≤ 1048576) ∧ l.length ≤ 1048576 := by
  obtain ⟨a0, len0, cap0, rfl⟩ := okWide_slice Tryd.underlying53 hv
  obtain ⟨fuel, hf⟩ := h
  obtain ⟨v, l, e, h1, h2, h3⟩ := oRowU Wt.kT Wt.okT (by kernel_rfl) (fun t => t.size ≤ 1048576) (fun fuel cs x ht hw => oTextU ht hw) hf hs
  simp only [Value.cells, List.cons.injEq, and_true] at e
  rw [e]
  exact ⟨l, h1, h2, h3⟩
set_option maxRecDepth 100000 in
theorem open_eventsU {H : Type} {enc : TypeId × Value → H} {W : World} {base : Nat} {v : Value} {d : DataW H} {p : List MemPlace}
    (hv : Value.okWide Tryd.prog W .any base 28 v) (h : DataW.Trod enc Tryd.prog W 0 (fun _ => true) true 28 v d p)
    (hs : Rows.uptoBulk d ≤ 1048576) : ∃ l, Row Wt.kE W v l ∧ (∀ e ∈ l, e.n.size ≤ 1048576 ∧ e.p.size ≤ 1048576) ∧ l.length ≤ 1048576 := by
  obtain ⟨a0, len0, cap0, rfl⟩ := okWide_slice Tryd.underlying28 hv
  obtain ⟨fuel, hf⟩ := h
  obtain ⟨v, l, e, h1, h2, h3⟩ := oRowU Wt.kE Wt.okE (by kernel_rfl) (fun e => e.n.size ≤ 1048576 ∧ e.p.size ≤ 1048576) (fun fuel cs x ht hw => oEvU ht hw) hf hs
  simp only [Value.cells, List.cons.injEq, and_true] at e
  rw [e]
  exact ⟨l, h1, h2, h3⟩
end Go.Proofs.YtfkoiehnkelpoaaDoor
