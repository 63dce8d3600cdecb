/-
  STEPS THAT CAME IN, OPENED, under the second form's bound.
-/
import Derived.Test.YtojemioophlplaaLawDevPlays
import Derived.Test.YtojemioophlplaaUpto
import Derived.Test.YtojemioophlplaaOpen
import Derived.Deep.Slices
import Derived.ChangeSame
namespace Go.Proofs.Ytojemioophlplaa
open Go.ChangeShapes Go.WideShapes Go.ChangeAt Go.RowKit Go.Deep
theorem bulkAgg {H : Type} {d : DataW H} {ds : List (DataW H)} {n : Nat} (h : Rows.uptoBulk (.agg ds) ≤ n) (hm : d ∈ ds) : Rows.uptoBulk d ≤ n := by
  have := bulk_mem hm
  simp only [Rows.uptoBulk] at h
  omega
theorem bulkLen {H : Type} {d : DataW H} (h : Rows.uptoBulk d ≤ 1048576) : ∀ E S, d = DataW.slice E S → E.length ≤ 1048576 := fun E S e => by
  rw [e] at h
  simp only [Rows.uptoBulk] at h
  have := bulk_len E
  omega
theorem bulkEl {H : Type} {d : DataW H} (h : Rows.uptoBulk d ≤ 1048576) : ∀ E S, d = DataW.slice E S → ∀ z ∈ E, Rows.uptoBulk z ≤ 1048576 := fun E S e z hz => by
  rw [e] at h
  simp only [Rows.uptoBulk] at h
  have := bulk_mem hz
  omega
theorem cells_at {W : World} {a : Addr} {n : Nat} {cs : List Value} (h : W.cells? 0 a n = some cs) (j : Nat) (y : Value) (hy : cs[j]? = some y) : W.cell? (a.add j) = some y := by
  obtain ⟨_, h2, h3⟩ := World.cells?_some h
  have hj : j < cs.length := by
    rcases Nat.lt_or_ge j cs.length with q | q
    · exact q
    · rw [List.getElem?_eq_none q] at hy; simp at hy
  rw [h3 j (by omega)]; exact hy
theorem bytes_in {H : Type} {enc : TypeId × Value → H} {W : World} {fuel : Nat} {cs : List Value} {x : DataW H × List MemPlace} (hf : DataW.trod enc Try.prog W 0 (fun _ => true) true fuel 30 cs = some x)
    (hs : Rows.uptoBulk x.1 ≤ 1048576) : ∃ v l, cs = [v] ∧ Bytes W v l ∧ l.length ≤ 1048576 := by
  rcases open_ints Try.underlying30 Try.underlying5 (by kernel_rfl) hf with ⟨hcs, _⟩ | ⟨x, len0, cap0, zs, hcs, _, hl, hm, hz, hx, hcell, hwz⟩
  · exact ⟨_, [], hcs, Bytes.nil W, by simp⟩
  · have hz' : zs.length = cap0 := by simpa using hz
    have hd := congrArg Prod.fst hx
    simp only at hd
    have e : ((zs.take len0).map fun n => UInt8.ofNat n.toNat).length = len0 := by simp; omega
    refine ⟨_, (zs.take len0).map fun n => UInt8.ofNat n.toNat, hcs, ⟨some x, cap0, by rw [e], by omega, hm, fun h => by simp at h, fun k hk => ?_⟩, ?_⟩
    · rw [e] at hk
      obtain ⟨b, off, spot⟩ := x
      have hc := hcell k (by omega)
      have hspot : spot = none := by
        have h0 := World.cell?_spot (hcell 0 (by omega))
        simpa [Addr.add] using h0
      subst hspot
      refine ⟨b, off, rfl, ?_⟩
      rw [add_plain] at hc
      rw [hc]
      have hk2 : k < (zs.take len0).length := by rw [List.length_take]; omega
      have hg : zs.getD k 0 = (zs.take len0)[k] := by
        simp only [List.getD, List.getElem?_eq_getElem (show k < zs.length by omega), Option.getD_some, List.getElem_take]
      have hw := bounds_u8 (hwz _ (List.mem_of_mem_take (List.getElem_mem hk2)))
      rw [hg]
      congr 2
      simp only [List.getD, List.getElem?_map, List.getElem?_eq_getElem hk2, Option.map_some, Option.getD_some]
      rw [c8_of _ (by omega)]
      omega
    · have := bulkLen hs _ _ hd
      simp only [lits, List.length_map, List.length_take] at this
      rw [e]; omega
theorem cellsOf_fate : Try.prog.cellsOf 49 = 2 := by kernel_rfl
theorem cellsOf_int : Try.prog.cellsOf 3 = 1 := by kernel_rfl
theorem fate_in {H : Type} {enc : TypeId × Value → H} {W : World} {fuel : Nat} {cs : List Value} {x : DataW H × List MemPlace} (h : DataW.trod enc Try.prog W 0 (fun _ => true) true fuel 49 cs = some x) : ∃ y : Int × Int, cs = [.int .i64 y.1, .int .i64 y.2] := by
  obtain ⟨y0, y1, m, hx, hl, h0, h1⟩ := trod_struct2 Try.underlying49 h
  rw [cellsOf_fate] at hl
  match cs, hl with
  | [c0, c1], _ =>
    change DataW.trod _ Try.prog W 0 _ true m 3 (List.take (Try.prog.cellsOf 3) [c0, c1]) = some y0 at h0
    change DataW.trod _ Try.prog W 0 _ true m 3 (List.take (Try.prog.cellsOf 3) [c1]) = some y1 at h1
    rw [cellsOf_int] at h0 h1
    obtain ⟨k, hk, _, _⟩ := DataW.trod_int Try.underlying3 h0
    obtain ⟨i, hi, _, _⟩ := DataW.trod_int Try.underlying3 h1
    simp only [List.take, List.cons.injEq, and_true] at hk hi
    subst hk hi
    exact ⟨(k, i), rfl⟩
set_option maxRecDepth 100000 in
theorem fates_in {H : Type} {enc : TypeId × Value → H} {W : World} {fuel : Nat} {cs : List Value} {x : DataW H × List MemPlace} (hf : DataW.trod enc Try.prog W 0 (fun _ => true) true fuel 31 cs = some x)
    (hs : Rows.uptoBulk x.1 ≤ 1048576) : ∃ v fs, cs = [v] ∧ Fts W v fs ∧ fs.length ≤ 1048576 := by
  rcases open_slice Try.underlying31 hf with ⟨hcs, _⟩ | ⟨x, len0, cap0, m, n, D, Pl, hcs, _, hl, hm, hmm, hx, hrow⟩
  · exact ⟨_, [], hcs, ⟨none, 0, rfl, by simp, by decide, fun _ => rfl, fun k hk => by simp at hk⟩, by simp⟩
  · simp only [if_true] at hmm
    subst hmm
    have hd := congrArg Prod.fst hx
    simp only at hd
    have key : ∀ i, i < len0 → ∃ y : Int × Int, ∀ j z, [Value.int .i64 y.1, .int .i64 y.2][j]? = some z → W.cell? ((x.add (i * 2)).add j) = some z := fun i hi => by
      obtain ⟨cs', hc, ht⟩ := hrow i (by omega)
      rw [cellsOf_fate] at hc
      obtain ⟨y, rfl⟩ := fate_in ht
      exact ⟨y, fun j z hz => cells_at hc j z hz⟩
    obtain ⟨f, hf2⟩ := choose_lt key
    have hlen : ((List.range len0).map f).length = len0 := by simp
    have hget : ∀ k, k < len0 → ((List.range len0).map f).getD k (0, 0) = f k := fun k hk => by simp [List.getD, hk]
    refine ⟨_, (List.range len0).map f, hcs, ⟨some x, _, by rw [hlen], by rw [hlen]; exact hl, hm, (fun h => by cases h), fun k hk => ?_⟩, ?_⟩
    · rw [hlen] at hk
      obtain ⟨b, off, spot⟩ := x
      have hspot : spot = none := by
        have h0 := World.cell?_spot (hf2 0 (by omega) 0 _ rfl)
        simpa [Addr.add] using h0
      subst hspot
      refine ⟨b, off, rfl, ?_, ?_⟩
      · have := hf2 k hk 0 _ rfl
        rw [add_plain, add_plain, Nat.add_zero] at this
        rw [hget k hk]; exact this
      · have := hf2 k hk 1 _ rfl
        rw [add_plain, add_plain] at this
        rw [hget k hk]; exact this
    · have := bulkLen hs _ _ hd
      simp only [List.length_map, List.length_range] at this
      rw [hlen]; omega
theorem cellsOf_op : Try.prog.cellsOf 33 = 8 := by kernel_rfl
theorem list8 {α : Type} {cs : List α} (h : cs.length = 8) : ∃ c0 c1 c2 c3 c4 c5 c6 c7, cs = [c0, c1, c2, c3, c4, c5, c6, c7] := by
  match cs, h with
  | [c0, c1, c2, c3, c4, c5, c6, c7], _ => exact ⟨c0, c1, c2, c3, c4, c5, c6, c7, rfl⟩
set_option maxRecDepth 100000 in
theorem op_in {H : Type} {enc : TypeId × Value → H} {W : World} {fuel : Nat} {cs : List Value} {x : DataW H × List MemPlace} (h : DataW.trod enc Try.prog W 0 (fun _ => true) true fuel 33 cs = some x)
    (hs : Rows.uptoBulk x.1 ≤ 1048576) : ∃ y : OpD, cs = y.cells ∧ y.At W := by
  obtain ⟨xs, n, _, rfl, hl, hlen, hf⟩ := DataW.trod_struct Try.underlying33 h
  rw [cellsOf_op] at hl
  obtain ⟨y0, y1, y2, y3, y4, y5, y6, y7, rfl⟩ := list8 hlen
  obtain ⟨c0, c1, c2, c3, c4, c5, c6, c7, rfl⟩ := list8 hl
  have e1 : Try.prog.cellsOf 4 = 1 := by kernel_rfl
  have e2 : Try.prog.cellsOf 5 = 1 := by kernel_rfl
  have e3 : Try.prog.cellsOf 30 = 1 := by kernel_rfl
  have e4 : Try.prog.cellsOf 31 = 1 := by kernel_rfl
  have t0 := hf 0 _ rfl
  have t1 := hf 1 _ rfl
  have t2 := hf 2 _ rfl
  have t3 := hf 3 _ rfl
  have t4 := hf 4 _ rfl
  have t5 := hf 5 _ rfl
  have t6 := hf 6 _ rfl
  have t7 := hf 7 _ rfl
  change DataW.trod enc Try.prog W 0 _ true n 4 (List.take (Try.prog.cellsOf 4) [c0, c1, c2, c3, c4, c5, c6, c7]) = some y0 at t0
  change DataW.trod enc Try.prog W 0 _ true n 3 (List.take (Try.prog.cellsOf 3) [c1, c2, c3, c4, c5, c6, c7]) = some y1 at t1
  change DataW.trod enc Try.prog W 0 _ true n 3 (List.take (Try.prog.cellsOf 3) [c2, c3, c4, c5, c6, c7]) = some y2 at t2
  change DataW.trod enc Try.prog W 0 _ true n 3 (List.take (Try.prog.cellsOf 3) [c3, c4, c5, c6, c7]) = some y3 at t3
  change DataW.trod enc Try.prog W 0 _ true n 3 (List.take (Try.prog.cellsOf 3) [c4, c5, c6, c7]) = some y4 at t4
  change DataW.trod enc Try.prog W 0 _ true n 5 (List.take (Try.prog.cellsOf 5) [c5, c6, c7]) = some y5 at t5
  change DataW.trod enc Try.prog W 0 _ true n 30 (List.take (Try.prog.cellsOf 30) [c6, c7]) = some y6 at t6
  change DataW.trod enc Try.prog W 0 _ true n 31 (List.take (Try.prog.cellsOf 31) [c7]) = some y7 at t7
  rw [e1] at t0
  rw [cellsOf_int] at t1 t2 t3 t4
  rw [e2] at t5
  rw [e3] at t6
  rw [e4] at t7
  have hw6 : Rows.uptoBulk y6.1 ≤ 1048576 := bulkAgg hs (by simp)
  have hw7 : Rows.uptoBulk y7.1 ≤ 1048576 := bulkAgg hs (by simp)
  obtain ⟨b0, hb0, _⟩ := DataW.trod_bool Try.underlying4 t0
  obtain ⟨k1, hk1, _, _⟩ := DataW.trod_int Try.underlying3 t1
  obtain ⟨k2, hk2, _, _⟩ := DataW.trod_int Try.underlying3 t2
  obtain ⟨k3, hk3, _, _⟩ := DataW.trod_int Try.underlying3 t3
  obtain ⟨k4, hk4, _, _⟩ := DataW.trod_int Try.underlying3 t4
  obtain ⟨k5, hk5, _, w5⟩ := DataW.trod_int Try.underlying5 t5
  obtain ⟨v6, l6, h6, bb6, s6⟩ := bytes_in t6 hw6
  obtain ⟨v7, l7, h7, bb7, s7⟩ := fates_in t7 hw7
  have bd := bounds_u8 w5
  simp only [List.take, List.cons.injEq, and_true] at hb0 hk1 hk2 hk3 hk4 hk5 h6 h7
  subst hb0 hk1 hk2 hk3 hk4 hk5 h6 h7
  refine ⟨⟨b0, k1, k2, k3, k4, UInt8.ofNat k5.toNat, c6, l6, c7, l7⟩, ?_, bb6, bb7, by show l6.length ≤ _; omega, by show l7.length * 16 ≤ _; omega⟩
  have e5 : c8 (UInt8.ofNat k5.toNat) = k5 := by rw [c8_of _ (by omega)]; omega
  show _ = [Value.bool b0, .int .i64 k1, .int .i64 k2, .int .i64 k3, .int .i64 k4, .int .u8 (c8 (UInt8.ofNat k5.toNat)), c6, c7]
  rw [e5]
set_option maxRecDepth 100000 in
theorem open_opsU {H : Type} {enc : TypeId × Value → H} {W : World} {base : Nat} {v : Value} {d : DataW H} {p : List MemPlace}
    (hv : Value.okWide Try.prog W .any base 22 v) (h : DataW.Trod enc Try.prog W 0 (fun _ => true) true 22 v d p)
    (hs : Rows.uptoBulk d ≤ 1048576) : ∃ l, Ops W v l ∧ l.length ≤ 1048576 := by
  obtain ⟨a0, len0, cap0, rfl⟩ := okWide_slice Try.underlying22 hv
  obtain ⟨fuel, hf⟩ := h
  rcases open_slice Try.underlying22 hf with ⟨hcs, _⟩ | ⟨x, l, c, m, n, D, Pl, hcs, _, hl, hm, hmm, hx, hrow⟩
  · simp [Value.cells] at hcs
    obtain ⟨rfl, rfl, rfl⟩ := hcs
    exact ⟨[], ⟨by simp, none, 0, rfl, by simp, by decide, fun h => absurd rfl h⟩, by simp⟩
  · simp [Value.cells] at hcs
    obtain ⟨rfl, rfl, rfl⟩ := hcs
    simp only [if_true] at hmm
    subst hmm
    have hd := congrArg Prod.fst hx
    simp only at hd
    have key : ∀ i, i < len0 → ∃ y : OpD, y.At W ∧ ∀ j z, y.cells[j]? = some z → W.cell? ((x.add (i * 8)).add j) = some z := fun i hi => by
      obtain ⟨cs', hc, ht⟩ := hrow i (by omega)
      rw [cellsOf_op] at hc
      obtain ⟨y, rfl, hy⟩ := op_in ht (bulkEl hs _ _ hd _ (List.mem_map.2 ⟨i, List.mem_range.2 hi, rfl⟩))
      exact ⟨y, hy, fun j z hz => cells_at hc j z hz⟩
    haveI : Inhabited OpD := ⟨⟨false, 0, 0, 0, 0, 0, .slice none 0 0, [], .slice none 0 0, []⟩⟩
    obtain ⟨f, hf2⟩ := choose_lt key
    have hlen : ((List.range len0).map f).length = len0 := by simp
    refine ⟨(List.range len0).map f, ⟨fun y hy => ?_, some x, _, by rw [hlen], by rw [hlen]; exact hl, hm, fun hne => ?_⟩, ?_⟩
    · obtain ⟨i, hi, rfl⟩ := List.mem_map.1 hy
      exact (hf2 i (List.mem_range.1 hi)).1
    · have h0 : 0 < len0 := by
        rcases Nat.eq_zero_or_pos len0 with e | e
        · subst e; exact absurd rfl hne
        · exact e
      obtain ⟨b, off, spot⟩ := x
      have hspot : spot = none := by
        have h1 := World.cell?_spot ((hf2 0 h0).2 0 _ rfl)
        simpa [Addr.add] using h1
      subst hspot
      refine ⟨b, off, rfl, fun j y hj i u hu => ?_⟩
      have hjl : j < len0 := by have := (List.getElem?_eq_some_iff.1 hj).1; rw [hlen] at this; exact this
      have ey : y = f j := by simp [hjl] at hj; exact hj.symm
      subst ey
      have := (hf2 j hjl).2 i u hu
      rw [add_plain, add_plain] at this
      exact this
    · have := bulkLen hs _ _ hd
      simp only [List.length_map, List.length_range] at this
      rw [hlen]; omega
theorem devPlays_walk (i1 i2 : Int) (v : Value) (l : List OpD) (w : World) (_ : -9223372036854775808 ≤ i1 ∧ i1 ≤ 9223372036854775807) (_ : -9223372036854775808 ≤ i2 ∧ i2 ≤ 9223372036854775807) (hv : Ops w v l) (hl : l.length ≤ 1048576) :
    Calls Try.prog 3 #[.int .i64 i1, .int .i64 i2, v] w fun e w' => e = .returned (.bool true) ∧ Below w.heap.size w w' := Rf.dev_plays i1 i2 v l w hv hl
end Go.Proofs.Ytojemioophlplaa
