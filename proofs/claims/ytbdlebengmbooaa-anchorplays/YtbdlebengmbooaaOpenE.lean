/-
  Open, AnG, OpenE, joined.
-/
import Derived.Test.YtbdlebengmbooaaBase2
import Derived.ProofKit
import Derived.OpenShut
import Derived.SizedLaws
import Derived.Test.YtbdlebengmbooaaAnV
import Derived.Deep.Slices
import Derived.ChangeSame
section S0
namespace Go.Proofs.Ytbdlebengmbooaa
open Go.ChangeShapes Go.WideShapes Go.ChangeAt Go.RowKit

theorem bytes_byte : Try.prog.bytesOf 5 = 1 := by kernel_rfl
set_option maxRecDepth 100000 in
theorem open_bytes_n {N : Nat} {H : Type} {enc : TypeId × Value → H} {W : World} {base : Nat} {v : Value} {d : DataW H} {p : List MemPlace}
    (hv : Value.okWide Try.prog W .any base 35 v) (h : DataW.Trod enc Try.prog W 0 (fun _ => true) true 35 v d p)
    (hs : ∀ elems spare, d = .slice elems spare → elems.length + spare.length ≤ N) :
    ∃ l, Bytes W v l ∧ l.length ≤ N := by
  obtain ⟨a0, len0, cap0, rfl⟩ := okWide_slice Try.underlying35 hv
  obtain ⟨fuel, hf⟩ := h
  rcases open_ints Try.underlying35 Try.underlying5 (by kernel_rfl) hf with ⟨hcs, _⟩ | ⟨x, l, c, zs, hcs, _, hl, hm, hz, hx, hcell, hwz⟩
  · simp [Value.cells] at hcs
    obtain ⟨rfl, rfl, rfl⟩ := hcs
    exact ⟨[], Bytes.nil W, by simp⟩
  · simp [Value.cells] at hcs
    obtain ⟨rfl, rfl, rfl⟩ := hcs
    have hz' : zs.length = cap0 := by simpa using hz
    have hb := hs _ _ (congrArg Prod.fst hx)
    simp only [lits, List.length_map, List.length_take, List.length_drop] at hb
    have e : ((zs.take len0).map fun n => UInt8.ofNat n.toNat).length = len0 := by simp; omega
    refine ⟨(zs.take len0).map fun n => UInt8.ofNat n.toNat, ⟨some x, cap0, by rw [e], by omega, hm, fun h => by simp at h, fun k hk => ?_⟩, by omega⟩
    rw [e] at hk
    obtain ⟨b, off, spot⟩ := x
    have hc := hcell k (by omega)
    have hspot : spot = none := by
      have h0 := World.cell?_spot (hcell 0 (by omega))
      simpa [Addr.add] using h0
    subst hspot
    refine ⟨b, off, rfl, ?_⟩
    rw [add_plain] at hc
    rw [hc]
    have hk2 : k < (zs.take len0).length := by rw [List.length_take]; omega
    have hg : zs.getD k 0 = (zs.take len0)[k] := by
      simp only [List.getD, List.getElem?_eq_getElem (show k < zs.length by omega), Option.getD_some, List.getElem_take]
    have hw := bounds_u8 (hwz _ (List.mem_of_mem_take (List.getElem_mem hk2)))
    rw [hg]
    congr 2
    simp only [List.getD, List.getElem?_map, List.getElem?_eq_getElem hk2, Option.map_some, Option.getD_some]
    unfold c8
    rw [UInt8.toNat_ofNat']
    omega
set_option maxRecDepth 100000 in
theorem open_bytes {H : Type} {enc : TypeId × Value → H} {W : World} {base : Nat} {v : Value} {d : DataW H} {p : List MemPlace}
    (hv : Value.okWide Try.prog W .any base 35 v) (h : DataW.Trod enc Try.prog W 0 (fun _ => true) true 35 v d p)
    (hs : ∀ elems spare, d = .slice elems spare → (elems.length + spare.length) * Try.prog.bytesOf 5 ≤ reachBytes) :
    ∃ l, Bytes W v l ∧ l.length ≤ 140737488351232 :=
  open_bytes_n hv h fun elems spare e => by
    have := hs elems spare e
    rw [bytes_byte] at this
    simp only [reachBytes] at this
    omega
theorem sized_arg {H : Type} {P : Program} {ts : List TypeId} {ds : List (DataW H)} (h : (DataW.weightsEach P ts ds).all (· ≤ reachBytes) = true) {j : Nat} {t : TypeId} {d : DataW H} (ht : ts[j]? = some t) (hd : ds[j]? = some d) : ∀ n ∈ d.weights P t, n ≤ reachBytes := fun n hn => by
  have := List.all_eq_true.1 h _ (DataW.weights_mem_each ht hd n hn)
  simpa using this
end Go.Proofs.Ytbdlebengmbooaa
end S0

section S1
namespace Go.Proofs.Ytbdlebengmbooaa
/-- What came in as a superblock. -/
def Sd (_w : World) (v : Value) (s : Sup) : Prop := v = .agg s.arr
abbrev In6 (i : Int) : Prop := -9223372036854775808 ≤ i ∧ i < 9223372036854775808
/-- Its numbers are whole numbers of 64 bits. -/
structure RgS (s : Sup) : Prop where
  gen : In6 s.gen
  ep : In6 s.ep
  blk : In6 s.blk
  log : In6 s.log
  st : In6 s.st
  pl : In6 s.pl
  rt : In6 s.rt
  cnt : In6 s.cnt
  ver : In6 s.ver
end Go.Proofs.Ytbdlebengmbooaa
end S1

section S2
namespace Go.Proofs.Ytbdlebengmbooaa
open Go.ChangeShapes Go.WideShapes Go.ChangeAt Go.RowKit Go.Deep
theorem cellsOf_super : Try.prog.cellsOf 34 = 9 := by kernel_rfl
theorem cellsOf_mark : Try.prog.cellsOf 32 = 2 := by kernel_rfl
theorem list9 {α : Type} {cs : List α} (h : cs.length = 9) : ∃ c0 c1 c2 c3 c4 c5 c6 c7 c8, cs = [c0, c1, c2, c3, c4, c5, c6, c7, c8] := by
  match cs, h with
  | [c0, c1, c2, c3, c4, c5, c6, c7, c8], _ => exact ⟨c0, c1, c2, c3, c4, c5, c6, c7, c8, rfl⟩
theorem list8 {α : Type} {cs : List α} (h : cs.length = 8) : ∃ c0 c1 c2 c3 c4 c5 c6 c7, cs = [c0, c1, c2, c3, c4, c5, c6, c7] := by
  match cs, h with
  | [c0, c1, c2, c3, c4, c5, c6, c7], _ => exact ⟨c0, c1, c2, c3, c4, c5, c6, c7, rfl⟩
theorem list2 {α : Type} {cs : List α} (h : cs.length = 2) : ∃ c0 c1, cs = [c0, c1] := by
  match cs, h with
  | [c0, c1], _ => exact ⟨c0, c1, rfl⟩
theorem in6_wf {n : Int} (h : (Lit.int .i64 n).wf = true) : In6 n := by
  have := bounds_i64 h
  exact ⟨by omega, by omega⟩
set_option maxRecDepth 100000 in
theorem cells_super {H : Type} {enc : TypeId × Value → H} {W : World} {fuel : Nat} {cs : List Value} {x : DataW H × List MemPlace} {b : Bool}
    (hf : DataW.trod enc Try.prog W 0 (fun _ => true) b fuel 34 cs = some x) : ∃ s : Sup, cs = s.arr.toList ∧ RgS s := by
  obtain ⟨xs, n, _, _, hl, hlen, hfl⟩ := DataW.trod_struct Try.underlying34 hf
  rw [cellsOf_super] at hl
  obtain ⟨y0, y1, y2, y3, y4, y5, y6, y7, rfl⟩ := list8 hlen
  obtain ⟨c0, c1, c2, c3, c4, c5, c6, c7, c8, hcs⟩ := list9 hl
  have e1 : Try.prog.cellsOf 3 = 1 := by kernel_rfl
  have e2 : Try.prog.cellsOf 2 = 1 := by kernel_rfl
  have t0 := hfl 0 _ rfl
  have t1 := hfl 1 _ rfl
  have t2 := hfl 2 _ rfl
  have t3 := hfl 3 _ rfl
  have t4 := hfl 4 _ rfl
  have t5 := hfl 5 _ rfl
  have t6 := hfl 6 _ rfl
  have t7 := hfl 7 _ rfl
  rw [hcs] at t0 t1 t2 t3 t4 t5 t6 t7
  change DataW.trod enc Try.prog W 0 _ b n 2 (List.take (Try.prog.cellsOf 2) [c0, c1, c2, c3, c4, c5, c6, c7, c8]) = some y0 at t0
  change DataW.trod enc Try.prog W 0 _ b n 2 (List.take (Try.prog.cellsOf 2) [c1, c2, c3, c4, c5, c6, c7, c8]) = some y1 at t1
  change DataW.trod enc Try.prog W 0 _ b n 3 (List.take (Try.prog.cellsOf 3) [c2, c3, c4, c5, c6, c7, c8]) = some y2 at t2
  change DataW.trod enc Try.prog W 0 _ b n 3 (List.take (Try.prog.cellsOf 3) [c3, c4, c5, c6, c7, c8]) = some y3 at t3
  change DataW.trod enc Try.prog W 0 _ b n 32 (List.take (Try.prog.cellsOf 32) [c4, c5, c6, c7, c8]) = some y4 at t4
  change DataW.trod enc Try.prog W 0 _ b n 3 (List.take (Try.prog.cellsOf 3) [c6, c7, c8]) = some y5 at t5
  change DataW.trod enc Try.prog W 0 _ b n 2 (List.take (Try.prog.cellsOf 2) [c7, c8]) = some y6 at t6
  change DataW.trod enc Try.prog W 0 _ b n 2 (List.take (Try.prog.cellsOf 2) [c8]) = some y7 at t7
  rw [e1] at t2 t3 t5
  rw [e2] at t0 t1 t6 t7
  rw [cellsOf_mark] at t4
  simp only [List.take] at t0 t1 t2 t3 t4 t5 t6 t7
  obtain ⟨ms, nm, _, _, _, mlen, mfl⟩ := DataW.trod_struct Try.underlying32 t4
  obtain ⟨z0, z1, rfl⟩ := list2 mlen
  have m0 := mfl 0 _ rfl
  have m1 := mfl 1 _ rfl
  change DataW.trod enc Try.prog W 0 _ b nm 2 (List.take (Try.prog.cellsOf 2) [c4, c5]) = some z0 at m0
  change DataW.trod enc Try.prog W 0 _ b nm 3 (List.take (Try.prog.cellsOf 3) [c5]) = some z1 at m1
  rw [e2] at m0
  rw [e1] at m1
  obtain ⟨k0, hk0, _, w0⟩ := DataW.trod_int Try.underlying2 t0
  obtain ⟨k1, hk1, _, w1⟩ := DataW.trod_int Try.underlying2 t1
  obtain ⟨k2, hk2, _, w2⟩ := DataW.trod_int Try.underlying3 t2
  obtain ⟨k3, hk3, _, w3⟩ := DataW.trod_int Try.underlying3 t3
  obtain ⟨k4, hk4, _, w4⟩ := DataW.trod_int Try.underlying2 m0
  obtain ⟨k5, hk5, _, w5⟩ := DataW.trod_int Try.underlying3 m1
  obtain ⟨k6, hk6, _, w6⟩ := DataW.trod_int Try.underlying3 t5
  obtain ⟨k7, hk7, _, w7⟩ := DataW.trod_int Try.underlying2 t6
  obtain ⟨k8, hk8, _, w8⟩ := DataW.trod_int Try.underlying2 t7
  simp only [List.take, List.cons.injEq, and_true] at hk0 hk1 hk2 hk3 hk4 hk5 hk6 hk7 hk8
  subst hk0 hk1 hk2 hk3 hk4 hk5 hk6 hk7 hk8
  exact ⟨⟨k0, k1, k2, k3, k4, k5, k6, k7, k8⟩, hcs, ⟨in6_wf w0, in6_wf w1, in6_wf w2, in6_wf w3, in6_wf w4, in6_wf w5, in6_wf w6, in6_wf w7, in6_wf w8⟩⟩
set_option maxRecDepth 100000 in
theorem open_super {H : Type} {enc : TypeId × Value → H} {W : World} {base : Nat} {v : Value} {d : DataW H} {p : List MemPlace}
    (hv : Value.okWide Try.prog W .any base 34 v) (h : DataW.Trod enc Try.prog W 0 (fun _ => true) true 34 v d p)
    (_hs : ∀ n ∈ d.weights Try.prog 34, n ≤ reachBytes) : ∃ s, Sd W v s ∧ RgS s := by
  obtain ⟨cs, rfl, _⟩ := okWide_struct Try.underlying34 hv
  obtain ⟨fuel, hf⟩ := h
  have hf' : DataW.trod enc Try.prog W 0 (fun _ => true) true fuel 34 cs.toList = some (d, p) := hf
  obtain ⟨s, hs, hr⟩ := cells_super hf'
  refine ⟨s, ?_, hr⟩
  show Value.agg cs = .agg s.arr
  congr 1
  apply Array.ext'
  exact hs
end Go.Proofs.Ytbdlebengmbooaa
end S2
