/-
  LISTS OF OBJECTS THAT CAME IN, OPENED, under the second form's bound.
-/
import Derived.Test.YtodfmnbfbndkhaaGreatDoorLeZm
import Derived.Test.YtodfmnbfbndkhaaGreatDoorOpenUm
namespace Go.Proofs.YtodfmnbfbndkhaaGreatDoor
open Go.ChangeShapes Go.WideShapes Go.ChangeAt Go.RowKit Go.Deep
namespace Le
set_option maxRecDepth 100000 in
/-- A slice of elements of a kind, of a bulk that is borne. -/
theorem oRowB {α : Type} (K : Kd α) (ok : K.Ok) (hc : Tryz.prog.cellsOf K.t = K.k) (hby : Tryz.prog.bytesOf K.t = K.b) {H : Type} {enc : TypeId × Value → H} {W : World} (G : α → Prop)
    (el : ∀ (fuel : Nat) (cs : List Value) (x : DataW H × List MemPlace), DataW.trod enc Tryz.prog W 0 (fun _ => true) true fuel K.t cs = some x → (∀ n ∈ x.1.weights Tryz.prog K.t, n ≤ reachBytes) → Rows.uptoBulk x.1 ≤ 1048576 → ∃ y : α, cs = K.c y ∧ G y)
    {fuel : Nat} {cs : List Value} {x : DataW H × List MemPlace} (hf : DataW.trod enc Tryz.prog W 0 (fun _ => true) true fuel K.s cs = some x)
    (hs : ∀ n ∈ x.1.weights Tryz.prog K.s, n ≤ reachBytes) (hu : Rows.uptoBulk x.1 ≤ 1048576) : ∃ v l, cs = [v] ∧ Row K W v l ∧ (∀ y ∈ l, G y) ∧ l.length * K.b ≤ 140737488355328 := by
  rcases open_slice ok.und hf with ⟨hcs, _⟩ | ⟨x, len0, cap0, m, n, D, Pl, hcs, _, hl, hm, hmm, hx, hrow⟩
  · exact ⟨_, [], hcs, Row.nil W, fun y hy => by simp at hy, by simp⟩
  · simp only [if_true] at hmm
    subst hmm
    have hd := congrArg Prod.fst hx
    simp only at hd
    rw [hd] at hs hu
    simp only [Rows.uptoBulk] at hu
    simp only [DataW.weights, ok.und] at hs
    have key : ∀ i, i < len0 → ∃ y : α, G y ∧ ∀ j z, (K.c y)[j]? = some z → W.cell? ((x.add (i * K.k)).add j) = some z := fun i hi => by
      obtain ⟨cs', hc', ht⟩ := hrow i (by omega)
      rw [hc] at hc'
      obtain ⟨y, rfl, hy⟩ := el _ _ _ ht (fun n hn => hs n (by
        simp only [List.mem_cons, List.mem_append]
        exact Or.inr (Or.inl (oWeights_all (List.mem_map.2 ⟨i, List.mem_range.2 hi, rfl⟩) hn)))) (by
        have hb := bulk_mem (H := H) (d := D i) (l := (List.range len0).map D) (List.mem_map.2 ⟨i, List.mem_range.2 hi, rfl⟩)
        simp only
        omega)
      exact ⟨y, hy, fun j z hz => oCells_at hc' j z hz⟩
    haveI : Inhabited α := ⟨K.z⟩
    obtain ⟨f, hf2⟩ := choose_lt key
    have hlen : ((List.range len0).map f).length = len0 := by simp
    have hget : ∀ k, k < len0 → ((List.range len0).map f).getD k K.z = f k := fun k hk => by simp [List.getD, hk]
    refine ⟨_, (List.range len0).map f, hcs, ⟨some x, _, by rw [hlen], by rw [hlen]; exact hl, hm, (fun h => by simp at h), fun k hk => ?_⟩, fun y hy => ?_, ?_⟩
    · rw [hlen] at hk
      obtain ⟨b, off, spot⟩ := x
      have hspot : spot = none := by
        have p0 : 0 < (K.c (f 0)).length := by rw [ok.len]; exact ok.pos
        have h1 := World.cell?_spot ((hf2 0 (by omega)).2 0 _ (List.getElem?_eq_getElem p0))
        simpa [Addr.add] using h1
      subst hspot
      refine ⟨b, off, rfl, fun j y hy => ?_⟩
      rw [hget k hk] at hy
      have := (hf2 k hk).2 j y hy
      rw [add_plain, add_plain] at this
      exact this
    · obtain ⟨i, hi, rfl⟩ := List.mem_map.1 hy
      exact (hf2 i (List.mem_range.1 hi)).1
    · have := hs _ (List.mem_cons_self)
      rw [hby] at this
      simp only [List.length_map, List.length_range, reachBytes] at this
      rw [hlen]
      exact Nat.le_trans (Nat.mul_le_mul_right K.b (Nat.le_add_right len0 _)) (Nat.le_trans this (by decide))
set_option maxRecDepth 100000 in
theorem oOb {H : Type} {enc : TypeId × Value → H} {W : World} {fuel : Nat} {cs : List Value} {x : DataW H × List MemPlace} (hf' : DataW.trod enc Tryz.prog W 0 (fun _ => true) true fuel 25 cs = some x)
    (hs : ∀ n ∈ x.1.weights Tryz.prog 25, n ≤ reachBytes) (hu : Rows.uptoBulk x.1 ≤ 1048576) : ∃ y : Rb, cs = kOb.c y ∧ (ObV W y.2.1.v y.2.2.v y.1 ∧ PSz y.1.ps ∧ y.1.p.size ≤ 140737488355328 ∧ OSz y.1) := by
  have hf0 := hf'
  obtain ⟨xs, n, _, hx, hl, hlen, hfl⟩ := DataW.trod_struct Tryz.underlying25 hf'
  rw [show Tryz.prog.cellsOf 25 = 7 by kernel_rfl] at hl
  obtain ⟨y0, y1, y2, y3, y4, y5, y6, rfl⟩ := oL7 hlen
  obtain ⟨c0, c1, c2, c3, c4, c5, c6, hcs⟩ := oL7 hl
  have t0 := hfl 0 _ rfl
  have t1 := hfl 1 _ rfl
  have t2 := hfl 2 _ rfl
  have t3 := hfl 3 _ rfl
  have t4 := hfl 4 _ rfl
  have t5 := hfl 5 _ rfl
  have t6 := hfl 6 _ rfl
  rw [hcs] at t0 t1 t2 t3 t4 t5 t6
  change DataW.trod enc Tryz.prog W 0 _ true n 9 (List.take (Tryz.prog.cellsOf 9) [c0, c1, c2, c3, c4, c5, c6]) = some y0 at t0
  rw [show Tryz.prog.cellsOf 9 = 1 by kernel_rfl] at t0
  change DataW.trod enc Tryz.prog W 0 _ true n 9 (List.take (Tryz.prog.cellsOf 9) [c1, c2, c3, c4, c5, c6]) = some y1 at t1
  rw [show Tryz.prog.cellsOf 9 = 1 by kernel_rfl] at t1
  change DataW.trod enc Tryz.prog W 0 _ true n 22 (List.take (Tryz.prog.cellsOf 22) [c2, c3, c4, c5, c6]) = some y2 at t2
  rw [show Tryz.prog.cellsOf 22 = 1 by kernel_rfl] at t2
  change DataW.trod enc Tryz.prog W 0 _ true n 3 (List.take (Tryz.prog.cellsOf 3) [c3, c4, c5, c6]) = some y3 at t3
  rw [show Tryz.prog.cellsOf 3 = 1 by kernel_rfl] at t3
  change DataW.trod enc Tryz.prog W 0 _ true n 2 (List.take (Tryz.prog.cellsOf 2) [c4, c5, c6]) = some y4 at t4
  rw [show Tryz.prog.cellsOf 2 = 1 by kernel_rfl] at t4
  change DataW.trod enc Tryz.prog W 0 _ true n 23 (List.take (Tryz.prog.cellsOf 23) [c5, c6]) = some y5 at t5
  rw [show Tryz.prog.cellsOf 23 = 1 by kernel_rfl] at t5
  change DataW.trod enc Tryz.prog W 0 _ true n 2 (List.take (Tryz.prog.cellsOf 2) [c6]) = some y6 at t6
  rw [show Tryz.prog.cellsOf 2 = 1 by kernel_rfl] at t6
  simp only [List.take] at t0 t1 t2 t3 t4 t5 t6
  have hd := congrArg Prod.fst hx
  simp only at hd
  have hw : ∀ (j : Nat) (t : TypeId) (y : DataW H), [9, 9, 22, 3, 2, 23, 2][j]? = some t → [y0.1, y1.1, y2.1, y3.1, y4.1, y5.1, y6.1][j]? = some y → ∀ m ∈ y.weights Tryz.prog t, m ≤ reachBytes := fun j t y h1 h2 m hm => hs m (by
    rw [hd]
    simp only [DataW.weights, Tryz.underlying25]
    exact DataW.weights_mem_each (j := j) h1 h2 m hm)
  obtain ⟨v0, e0, s0⟩ := oText t0 (hw 0 _ _ rfl rfl)
  obtain ⟨v1, e1, s1⟩ := oText t1 (hw 1 _ _ rfl rfl)
  obtain ⟨v2, l2, e2, r2, g2, b2⟩ := oLbs t2 (hw 2 _ _ rfl rfl)
  obtain ⟨v3, e3, s3⟩ := oInt Tryz.underlying3 t3
  obtain ⟨v4, e4, s4⟩ := oInt Tryz.underlying2 t4
  obtain ⟨v5, l5, e5, r5, g5, b5⟩ := oPts t5 (hw 5 _ _ rfl rfl)
  obtain ⟨v6, e6, s6⟩ := oInt Tryz.underlying2 t6
  simp only [List.cons.injEq, and_true] at e0 e1 e2 e3 e4 e5 e6
  subst e0 e1 e2 e3 e4 e5 e6
  obtain ⟨a2, n2, hv2, _⟩ := r2.len
  obtain ⟨a5, n5, hv5, _⟩ := r5.len
  subst hv2 hv5
  have B := object_small (H := H) (d := x.1) (p := x.2) (ds := [x.1]) (o := ⟨v0, v1, l2, v3, v4, l5, v6⟩) (ls := .slice a2 l2.length n2) (ps := .slice a5 l5.length n5) (by
    unfold Rows.uptoSmall
    simp only [Rows.uptoBulkAll]
    exact decide_eq_true (by omega)) (by simp) ⟨fuel, by rw [hcs] at hf0; exact hf0⟩ ⟨⟨r2, r5⟩, ⟨⟨s0, s1⟩, g2, fun q hq => (g5 q hq).1, ⟨s3.1, s3.2, s4.1, s4.2, s6.1, s6.2⟩⟩, b2, b5, fun q hq => (g5 q hq).2⟩
  exact ⟨⟨⟨v0, v1, l2, v3, v4, l5, v6⟩, ⟨a2, l2.length, n2⟩, ⟨a5, l5.length, n5⟩⟩, hcs, B.1, B.2.2.1, s0, B.2.1⟩
set_option maxRecDepth 100000 in
theorem open_objsU {H : Type} {enc : TypeId × Value → H} {W : World} {base : Nat} {v : Value} {d : DataW H} {p : List MemPlace}
    (hv : Value.okWide Tryz.prog W .any base 46 v) (h : DataW.Trod enc Tryz.prog W 0 (fun _ => true) true 46 v d p)
    (hs : ∀ n ∈ d.weights Tryz.prog 46, n ≤ reachBytes) (hu : Rows.uptoBulk d ≤ 1048576) : ∃ rs : List Rb, ObsAt W v rs ∧ OzL rs := by
  obtain ⟨a0, len0, cap0, rfl⟩ := okWide_slice Tryz.underlying46 hv
  obtain ⟨fuel, hf⟩ := h
  obtain ⟨v, l, e, hr, hg, _⟩ := oRowB kOb okOb (by kernel_rfl) (by kernel_rfl) (fun y => ObV W y.2.1.v y.2.2.v y.1 ∧ PSz y.1.ps ∧ y.1.p.size ≤ 140737488355328 ∧ OSz y.1) (fun _ _ _ h hs hu => oOb h hs hu) hf hs hu
  simp only [Value.cells, List.cons.injEq, and_true] at e
  rw [e]
  exact ⟨l, ⟨hr, fun x hx => (hg x hx).1⟩, ⟨fun x hx => (hg x hx).2.1, fun x hx => (hg x hx).2.2.1, fun x hx => (hg x hx).2.2.2⟩⟩
theorem okIn : kIn.Ok := ⟨fun _ => rfl, by decide, fun x u hu => by simp only [kIn, List.mem_cons, List.not_mem_nil, or_false] at hu; rcases hu with rfl; rfl, Tryz.underlying157, ⟨_, (by kernel_rfl : (Tryz.prog.info? 3).map (fun i => (i.zero, i.size, i.bytes)) = some (some (.int .i64 0), 1, 8)), rfl⟩, by decide⟩
set_option maxRecDepth 100000 in
theorem open_ints {H : Type} {enc : TypeId × Value → H} {W : World} {base : Nat} {v : Value} {d : DataW H} {p : List MemPlace}
    (hv : Value.okWide Tryz.prog W .any base 157 v) (h : DataW.Trod enc Tryz.prog W 0 (fun _ => true) true 157 v d p)
    (hs : ∀ n ∈ d.weights Tryz.prog 157, n ≤ reachBytes) : ∃ l : List Int, Row kIn W v l := by
  obtain ⟨a0, len0, cap0, rfl⟩ := okWide_slice Tryz.underlying157 hv
  obtain ⟨fuel, hf⟩ := h
  obtain ⟨v, l, hc, hr, _, _⟩ := oRow kIn okIn (by kernel_rfl) (by kernel_rfl) (fun _ => True) (fun _ _ _ h _ => (by obtain ⟨k, e, _⟩ := oInt Tryz.underlying3 h; exact ⟨k, e, trivial⟩)) hf hs
  simp only [Value.cells, List.cons.injEq, and_true] at hc
  rw [hc]
  exact ⟨l, hr⟩
theorem hasM {W : World} (h : W.ShapedOpen Tryz.prog) : L.HasM W := Tryz.laysM219.s1_3 W h
end Le
end Go.Proofs.YtodfmnbfbndkhaaGreatDoor
