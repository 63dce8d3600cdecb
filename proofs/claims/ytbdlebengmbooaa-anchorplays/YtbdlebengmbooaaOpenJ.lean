/-
  A SLICE OF STEPS THAT CAME IN, OPENED.
-/
import Derived.Test.YtbdlebengmbooaaLawPlays
import Derived.Test.YtbdlebengmbooaaOpenE
import Derived.Deep.Slices
import Derived.ChangeSame
namespace Go.Proofs.Ytbdlebengmbooaa
open Go.ChangeShapes Go.WideShapes Go.ChangeAt Go.RowKit Go.Deep
theorem weights_all_mem {H : Type} {P : Program} {e : TypeId} {d : DataW H} {l : List (DataW H)} (h : d ∈ l) {n : Nat} (hn : n ∈ d.weights P e) : n ∈ DataW.weightsAll P e l := by
  induction l with
  | nil => simp at h
  | cons c l ih =>
    simp only [DataW.weightsAll, List.mem_append]
    rcases List.mem_cons.1 h with rfl | h
    · exact Or.inl hn
    · exact Or.inr (ih h)
theorem cells_at {W : World} {a : Addr} {n : Nat} {cs : List Value} (h : W.cells? 0 a n = some cs) (j : Nat) (y : Value) (hy : cs[j]? = some y) : W.cell? (a.add j) = some y := by
  obtain ⟨_, h2, h3⟩ := World.cells?_some h
  have hj : j < cs.length := by
    rcases Nat.lt_or_ge j cs.length with q | q
    · exact q
    · rw [List.getElem?_eq_none q] at hy; simp at hy
  rw [h3 j (by omega)]; exact hy
theorem cellsOf_fate : Try.prog.cellsOf 74 = 2 := by kernel_rfl
theorem bytesOf_fate : Try.prog.bytesOf 74 = 16 := by kernel_rfl
theorem cellsOf_int : Try.prog.cellsOf 3 = 1 := by kernel_rfl
set_option maxRecDepth 100000 in
theorem fate_in {H : Type} {enc : TypeId × Value → H} {W : World} {fuel : Nat} {cs : List Value} {x : DataW H × List MemPlace} (h : DataW.trod enc Try.prog W 0 (fun _ => true) true fuel 74 cs = some x) : ∃ y : Int × Int, cs = [.int .i64 y.1, .int .i64 y.2] := by
  obtain ⟨y0, y1, m, hx, hl, h0, h1⟩ := trod_struct2 Try.underlying74 h
  rw [cellsOf_fate] at hl
  match cs, hl with
  | [c0, c1], _ =>
    change DataW.trod _ Try.prog W 0 _ true m 3 (List.take (Try.prog.cellsOf 3) [c0, c1]) = some y0 at h0
    change DataW.trod _ Try.prog W 0 _ true m 3 (List.take (Try.prog.cellsOf 3) [c1]) = some y1 at h1
    rw [cellsOf_int] at h0 h1
    obtain ⟨k, hk, _, _⟩ := DataW.trod_int Try.underlying3 h0
    obtain ⟨i, hi, _, _⟩ := DataW.trod_int Try.underlying3 h1
    simp only [List.take, List.cons.injEq, and_true] at hk hi
    subst hk hi
    exact ⟨(k, i), rfl⟩
set_option maxRecDepth 100000 in
theorem fates_in {H : Type} {enc : TypeId × Value → H} {W : World} {fuel : Nat} {cs : List Value} {x : DataW H × List MemPlace} (hf : DataW.trod enc Try.prog W 0 (fun _ => true) true fuel 36 cs = some x)
    (hs : ∀ n ∈ x.1.weights Try.prog 36, n ≤ reachBytes) : ∃ v fs, cs = [v] ∧ Fts W v fs ∧ fs.length * 16 ≤ 140737488351232 := by
  rcases open_slice Try.underlying36 hf with ⟨hcs, _⟩ | ⟨x, len0, cap0, m, n, D, Pl, hcs, _, hl, hm, hmm, hx, hrow⟩
  · exact ⟨_, [], hcs, ⟨none, 0, rfl, by simp, by decide, fun _ => rfl, fun k hk => by simp at hk⟩, by simp⟩
  · simp only [if_true] at hmm
    subst hmm
    have hd := congrArg Prod.fst hx
    simp only at hd
    rw [hd] at hs
    simp only [DataW.weights, Try.underlying36] at hs
    have key : ∀ i, i < len0 → ∃ y : Int × Int, ∀ j z, [Value.int .i64 y.1, .int .i64 y.2][j]? = some z → W.cell? ((x.add (i * 2)).add j) = some z := fun i hi => by
      obtain ⟨cs', hc, ht⟩ := hrow i (by omega)
      rw [cellsOf_fate] at hc
      obtain ⟨y, rfl⟩ := fate_in ht
      exact ⟨y, fun j z hz => cells_at hc j z hz⟩
    obtain ⟨f, hf2⟩ := choose_lt key
    have hlen : ((List.range len0).map f).length = len0 := by simp
    have hget : ∀ k, k < len0 → ((List.range len0).map f).getD k (0, 0) = f k := fun k hk => by simp [List.getD, hk]
    refine ⟨_, (List.range len0).map f, hcs, ⟨some x, _, by rw [hlen], by rw [hlen]; exact hl, hm, (fun h => by cases h), fun k hk => ?_⟩, ?_⟩
    · rw [hlen] at hk
      obtain ⟨b, off, spot⟩ := x
      have hspot : spot = none := by
        have h0 := World.cell?_spot (hf2 0 (by omega) 0 _ rfl)
        simpa [Addr.add] using h0
      subst hspot
      refine ⟨b, off, rfl, ?_, ?_⟩
      · have := hf2 k hk 0 _ rfl
        rw [add_plain, add_plain, Nat.add_zero] at this
        rw [hget k hk]; exact this
      · have := hf2 k hk 1 _ rfl
        rw [add_plain, add_plain] at this
        rw [hget k hk]; exact this
    · have := hs _ (List.mem_cons_self)
      rw [bytesOf_fate] at this
      simp only [List.length_map, List.length_range, reachBytes] at this
      rw [hlen]; omega
theorem bytes_in {H : Type} {enc : TypeId × Value → H} {W : World} {fuel : Nat} {cs : List Value} {x : DataW H × List MemPlace} (hf : DataW.trod enc Try.prog W 0 (fun _ => true) true fuel 35 cs = some x)
    (hs : ∀ n ∈ x.1.weights Try.prog 35, n ≤ reachBytes) : ∃ v l, cs = [v] ∧ Bytes W v l ∧ l.length ≤ 140737488351232 := by
  rcases open_ints Try.underlying35 Try.underlying5 (by kernel_rfl) hf with ⟨hcs, _⟩ | ⟨x, len0, cap0, zs, hcs, _, hl, hm, hz, hx, hcell, hwz⟩
  · exact ⟨_, [], hcs, Bytes.nil W, by simp⟩
  · have hz' : zs.length = cap0 := by simpa using hz
    have hd := congrArg Prod.fst hx
    simp only at hd
    rw [hd] at hs
    simp only [DataW.weights, Try.underlying35] at hs
    have e : ((zs.take len0).map fun n => UInt8.ofNat n.toNat).length = len0 := by simp; omega
    refine ⟨_, (zs.take len0).map fun n => UInt8.ofNat n.toNat, hcs, ⟨some x, cap0, by rw [e], by omega, hm, fun h => by simp at h, fun k hk => ?_⟩, ?_⟩
    · rw [e] at hk
      obtain ⟨b, off, spot⟩ := x
      have hc := hcell k (by omega)
      have hspot : spot = none := by
        have h0 := World.cell?_spot (hcell 0 (by omega))
        simpa [Addr.add] using h0
      subst hspot
      refine ⟨b, off, rfl, ?_⟩
      rw [add_plain] at hc
      rw [hc]
      have hk2 : k < (zs.take len0).length := by rw [List.length_take]; omega
      have hg : zs.getD k 0 = (zs.take len0)[k] := by
        simp only [List.getD, List.getElem?_eq_getElem (show k < zs.length by omega), Option.getD_some, List.getElem_take]
      have hw := bounds_u8 (hwz _ (List.mem_of_mem_take (List.getElem_mem hk2)))
      rw [hg]
      congr 2
      simp only [List.getD, List.getElem?_map, List.getElem?_eq_getElem hk2, Option.map_some, Option.getD_some]
      rw [c8_of _ (by omega)]
      omega
    · have := hs _ (List.mem_cons_self)
      rw [bytes_byte] at this
      simp only [lits, List.length_map, List.length_take, reachBytes] at this
      rw [e]; omega
theorem cellsOf_op : Try.prog.cellsOf 38 = 14 := by kernel_rfl
theorem list14 {α : Type} {cs : List α} (h : cs.length = 14) : ∃ c0 c1 c2 c3 c4 c5 c6 c7 c8 c9 c10 c11 c12 c13, cs = [c0, c1, c2, c3, c4, c5, c6, c7, c8, c9, c10, c11, c12, c13] := by
  match cs, h with
  | [c0, c1, c2, c3, c4, c5, c6, c7, c8, c9, c10, c11, c12, c13], _ => exact ⟨c0, c1, c2, c3, c4, c5, c6, c7, c8, c9, c10, c11, c12, c13, rfl⟩
theorem list6 {α : Type} {cs : List α} (h : cs.length = 6) : ∃ c0 c1 c2 c3 c4 c5, cs = [c0, c1, c2, c3, c4, c5] := by
  match cs, h with
  | [c0, c1, c2, c3, c4, c5], _ => exact ⟨c0, c1, c2, c3, c4, c5, rfl⟩
set_option maxRecDepth 100000 in
theorem op_in {H : Type} {enc : TypeId × Value → H} {W : World} {fuel : Nat} {cs : List Value} {x : DataW H × List MemPlace} (h : DataW.trod enc Try.prog W 0 (fun _ => true) true fuel 38 cs = some x)
    (hs : ∀ n ∈ x.1.weights Try.prog 38, n ≤ reachBytes) : ∃ y : OpA, cs = y.cells ∧ y.At W := by
  obtain ⟨xs, n, _, rfl, hl, hlen, hf⟩ := DataW.trod_struct Try.underlying38 h
  rw [cellsOf_op] at hl
  obtain ⟨y0, y1, y2, y3, y4, y5, rfl⟩ := list6 hlen
  obtain ⟨c0, c1, c2, c3, c4, c5, c6, c7, c8, c9, c10, c11, c12, c13, rfl⟩ := list14 hl
  have e3 : Try.prog.cellsOf 35 = 1 := by kernel_rfl
  have e4 : Try.prog.cellsOf 36 = 1 := by kernel_rfl
  have t0 := hf 0 _ rfl
  have t1 := hf 1 _ rfl
  have t2 := hf 2 _ rfl
  have t3 := hf 3 _ rfl
  have t4 := hf 4 _ rfl
  have t5 := hf 5 _ rfl
  change DataW.trod enc Try.prog W 0 _ true n 3 (List.take (Try.prog.cellsOf 3) [c0, c1, c2, c3, c4, c5, c6, c7, c8, c9, c10, c11, c12, c13]) = some y0 at t0
  change DataW.trod enc Try.prog W 0 _ true n 34 (List.take (Try.prog.cellsOf 34) [c1, c2, c3, c4, c5, c6, c7, c8, c9, c10, c11, c12, c13]) = some y1 at t1
  change DataW.trod enc Try.prog W 0 _ true n 3 (List.take (Try.prog.cellsOf 3) [c10, c11, c12, c13]) = some y2 at t2
  change DataW.trod enc Try.prog W 0 _ true n 3 (List.take (Try.prog.cellsOf 3) [c11, c12, c13]) = some y3 at t3
  change DataW.trod enc Try.prog W 0 _ true n 35 (List.take (Try.prog.cellsOf 35) [c12, c13]) = some y4 at t4
  change DataW.trod enc Try.prog W 0 _ true n 36 (List.take (Try.prog.cellsOf 36) [c13]) = some y5 at t5
  rw [cellsOf_super] at t1
  rw [cellsOf_int] at t0 t2 t3
  rw [e3] at t4
  rw [e4] at t5
  have hw4 : ∀ m ∈ y4.1.weights Try.prog 35, m ≤ reachBytes := fun m hm => hs m (by
    simp only [DataW.weights, Try.underlying38]
    exact DataW.weights_mem_each (j := 4) rfl rfl m hm)
  have hw5 : ∀ m ∈ y5.1.weights Try.prog 36, m ≤ reachBytes := fun m hm => hs m (by
    simp only [DataW.weights, Try.underlying38]
    exact DataW.weights_mem_each (j := 5) rfl rfl m hm)
  simp only [List.take] at t1
  obtain ⟨s, hcs, _⟩ := cells_super t1
  obtain ⟨k0, hk0, _, _⟩ := DataW.trod_int Try.underlying3 t0
  obtain ⟨k2, hk2, _, _⟩ := DataW.trod_int Try.underlying3 t2
  obtain ⟨k3, hk3, _, _⟩ := DataW.trod_int Try.underlying3 t3
  obtain ⟨v4, l4, h4, bb4, s4⟩ := bytes_in t4 hw4
  obtain ⟨v5, l5, h5, bb5, s5⟩ := fates_in t5 hw5
  simp only [List.take, List.cons.injEq, and_true] at hk0 hk2 hk3 h4 h5
  subst hk0 hk2 hk3 h4 h5
  refine ⟨⟨k0, s, k2, k3, c12, l4, c13, l5⟩, ?_, bb4, bb5, by show l4.length ≤ _; omega, by show l5.length ≤ _; omega⟩
  simp only [Sup.arr, List.cons.injEq, and_true] at hcs
  obtain ⟨r0, r1, r2, r3, r4, r5, r6, r7, r8⟩ := hcs
  subst r0 r1 r2 r3 r4 r5 r6 r7 r8
  rfl
theorem bytesOf_op : Try.prog.bytesOf 38 = 144 := by kernel_rfl
set_option maxRecDepth 100000 in
theorem open_steps {H : Type} {enc : TypeId × Value → H} {W : World} {base : Nat} {v : Value} {d : DataW H} {p : List MemPlace}
    (hv : Value.okWide Try.prog W .any base 22 v) (h : DataW.Trod enc Try.prog W 0 (fun _ => true) true 22 v d p)
    (hs : ∀ n ∈ d.weights Try.prog 22, n ≤ reachBytes) : ∃ l, Opa W v l ∧ l.length ≤ 977343672030 := by
  obtain ⟨a0, len0, cap0, rfl⟩ := okWide_slice Try.underlying22 hv
  obtain ⟨fuel, hf⟩ := h
  rcases open_slice Try.underlying22 hf with ⟨hcs, _⟩ | ⟨x, l, c, m, n, D, Pl, hcs, _, hl, hm, hmm, hx, hrow⟩
  · simp [Value.cells] at hcs
    obtain ⟨rfl, rfl, rfl⟩ := hcs
    exact ⟨[], ⟨by simp, none, 0, rfl, by simp, by decide, fun h => absurd rfl h⟩, by simp⟩
  · simp [Value.cells] at hcs
    obtain ⟨rfl, rfl, rfl⟩ := hcs
    simp only [if_true] at hmm
    subst hmm
    have hd := congrArg Prod.fst hx
    simp only at hd
    rw [hd] at hs
    simp only [DataW.weights, Try.underlying22] at hs
    have key : ∀ i, i < len0 → ∃ y : OpA, y.At W ∧ ∀ j z, y.cells[j]? = some z → W.cell? ((x.add (i * 14)).add j) = some z := fun i hi => by
      obtain ⟨cs', hc, ht⟩ := hrow i (by omega)
      rw [cellsOf_op] at hc
      obtain ⟨y, rfl, hy⟩ := op_in ht (fun n hn => hs n (by
        simp only [List.mem_cons, List.mem_append]
        exact Or.inr (Or.inl (weights_all_mem (List.mem_map.2 ⟨i, List.mem_range.2 hi, rfl⟩) hn))))
      exact ⟨y, hy, fun j z hz => cells_at hc j z hz⟩
    haveI : Inhabited OpA := ⟨⟨0, ⟨0, 0, 0, 0, 0, 0, 0, 0, 0⟩, 0, 0, .slice none 0 0, [], .slice none 0 0, []⟩⟩
    obtain ⟨f, hf2⟩ := choose_lt key
    have hlen : ((List.range len0).map f).length = len0 := by simp
    refine ⟨(List.range len0).map f, ⟨fun y hy => ?_, some x, _, by rw [hlen], by rw [hlen]; exact hl, hm, fun hne => ?_⟩, ?_⟩
    · obtain ⟨i, hi, rfl⟩ := List.mem_map.1 hy
      exact (hf2 i (List.mem_range.1 hi)).1
    · have h0 : 0 < len0 := by
        rcases Nat.eq_zero_or_pos len0 with e | e
        · subst e; exact absurd rfl hne
        · exact e
      obtain ⟨b, off, spot⟩ := x
      have hspot : spot = none := by
        have h1 := World.cell?_spot ((hf2 0 h0).2 0 _ rfl)
        simpa [Addr.add] using h1
      subst hspot
      refine ⟨b, off, rfl, fun j y hj i u hu => ?_⟩
      have hjl : j < len0 := by have := (List.getElem?_eq_some_iff.1 hj).1; rw [hlen] at this; exact this
      have ey : y = f j := by simp [hjl] at hj; exact hj.symm
      subst ey
      have := (hf2 j hjl).2 i u hu
      rw [add_plain, add_plain] at this
      exact this
    · have := hs _ (List.mem_cons_self)
      rw [bytesOf_op] at this
      simp only [List.length_map, List.length_range, reachBytes] at this
      rw [hlen]; omega
theorem anchorPlays_walk (i1 : Int) (v : Value) (l : List OpA) (w : World) (_ : -9223372036854775808 ≤ i1 ∧ i1 ≤ 9223372036854775807) (hv : Opa w v l) (hl : l.length ≤ 977343672030) :
    Calls Try.prog 3 #[.int .i64 i1, v] w fun e w' => e = .returned (.bool true) ∧ Below w.heap.size w w' := Rf.anchor_plays i1 v l w hv hl
end Go.Proofs.Ytbdlebengmbooaa
