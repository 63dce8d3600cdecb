/-
  Open, OpenG, joined.
-/
import Derived.Test.YtfljbipnjfciaabBase2
import Derived.ProofKit
import Derived.OpenShut
import Derived.SizedLaws
import Derived.Test.YtfljbipnjfciaabLawBlocks
import Derived.Deep.Slices
import Derived.ChangeSame
section S0
namespace Go.Proofs.Ytfljbipnjfciaab
open Go.ChangeShapes Go.WideShapes Go.ChangeAt Go.RowKit

theorem bytes_byte : Try.prog.bytesOf 5 = 1 := by kernel_rfl
set_option maxRecDepth 100000 in
theorem open_bytes_n {N : Nat} {H : Type} {enc : TypeId × Value → H} {W : World} {base : Nat} {v : Value} {d : DataW H} {p : List MemPlace}
    (hv : Value.okWide Try.prog W .any base 24 v) (h : DataW.Trod enc Try.prog W 0 (fun _ => true) true 24 v d p)
    (hs : ∀ elems spare, d = .slice elems spare → elems.length + spare.length ≤ N) :
    ∃ l, Bytes W v l ∧ l.length ≤ N := by
  obtain ⟨a0, len0, cap0, rfl⟩ := okWide_slice Try.underlying24 hv
  obtain ⟨fuel, hf⟩ := h
  rcases open_ints Try.underlying24 Try.underlying5 (by kernel_rfl) hf with ⟨hcs, _⟩ | ⟨x, l, c, zs, hcs, _, hl, hm, hz, hx, hcell, hwz⟩
  · simp [Value.cells] at hcs
    obtain ⟨rfl, rfl, rfl⟩ := hcs
    exact ⟨[], Bytes.nil W, by simp⟩
  · simp [Value.cells] at hcs
    obtain ⟨rfl, rfl, rfl⟩ := hcs
    have hz' : zs.length = cap0 := by simpa using hz
    have hb := hs _ _ (congrArg Prod.fst hx)
    simp only [lits, List.length_map, List.length_take, List.length_drop] at hb
    have e : ((zs.take len0).map fun n => UInt8.ofNat n.toNat).length = len0 := by simp; omega
    refine ⟨(zs.take len0).map fun n => UInt8.ofNat n.toNat, ⟨some x, cap0, by rw [e], by omega, hm, fun h => by simp at h, fun k hk => ?_⟩, by omega⟩
    rw [e] at hk
    obtain ⟨b, off, spot⟩ := x
    have hc := hcell k (by omega)
    have hspot : spot = none := by
      have h0 := World.cell?_spot (hcell 0 (by omega))
      simpa [Addr.add] using h0
    subst hspot
    refine ⟨b, off, rfl, ?_⟩
    rw [add_plain] at hc
    rw [hc]
    have hk2 : k < (zs.take len0).length := by rw [List.length_take]; omega
    have hg : zs.getD k 0 = (zs.take len0)[k] := by
      simp only [List.getD, List.getElem?_eq_getElem (show k < zs.length by omega), Option.getD_some, List.getElem_take]
    have hw := bounds_u8 (hwz _ (List.mem_of_mem_take (List.getElem_mem hk2)))
    rw [hg]
    congr 2
    simp only [List.getD, List.getElem?_map, List.getElem?_eq_getElem hk2, Option.map_some, Option.getD_some]
    unfold c8
    rw [UInt8.toNat_ofNat']
    omega
set_option maxRecDepth 100000 in
theorem open_bytes {H : Type} {enc : TypeId × Value → H} {W : World} {base : Nat} {v : Value} {d : DataW H} {p : List MemPlace}
    (hv : Value.okWide Try.prog W .any base 24 v) (h : DataW.Trod enc Try.prog W 0 (fun _ => true) true 24 v d p)
    (hs : ∀ elems spare, d = .slice elems spare → (elems.length + spare.length) * Try.prog.bytesOf 5 ≤ reachBytes) :
    ∃ l, Bytes W v l ∧ l.length ≤ 140737488351232 :=
  open_bytes_n hv h fun elems spare e => by
    have := hs elems spare e
    rw [bytes_byte] at this
    simp only [reachBytes] at this
    omega
theorem sized_arg {H : Type} {P : Program} {ts : List TypeId} {ds : List (DataW H)} (h : (DataW.weightsEach P ts ds).all (· ≤ reachBytes) = true) {j : Nat} {t : TypeId} {d : DataW H} (ht : ts[j]? = some t) (hd : ds[j]? = some d) : ∀ n ∈ d.weights P t, n ≤ reachBytes := fun n hn => by
  have := List.all_eq_true.1 h _ (DataW.weights_mem_each ht hd n hn)
  simpa using this
end Go.Proofs.Ytfljbipnjfciaab
end S0

section S1
namespace Go.Proofs.Ytfljbipnjfciaab
open Go.ChangeShapes Go.WideShapes Go.ChangeAt Go.RowKit Go.Deep
theorem cellsOf_group : Try.prog.cellsOf 23 = 5 := by kernel_rfl
theorem list5 {α : Type} {cs : List α} (h : cs.length = 5) : ∃ c0 c1 c2 c3 c4, cs = [c0, c1, c2, c3, c4] := by
  match cs, h with
  | [c0, c1, c2, c3, c4], _ => exact ⟨c0, c1, c2, c3, c4, rfl⟩
set_option maxRecDepth 100000 in
theorem open_group {H : Type} {enc : TypeId × Value → H} {W : World} {base : Nat} {v : Value} {d : DataW H} {p : List MemPlace}
    (hv : Value.okWide Try.prog W .any base 23 v) (h : DataW.Trod enc Try.prog W 0 (fun _ => true) true 23 v d p)
    (_hs : ∀ n ∈ d.weights Try.prog 23, n ≤ reachBytes) : ∃ g, Gd W v g ∧ True := by
  obtain ⟨cs, rfl, _⟩ := okWide_struct Try.underlying23 hv
  obtain ⟨fuel, hf⟩ := h
  have hf' : DataW.trod enc Try.prog W 0 (fun _ => true) true fuel 23 cs.toList = some (d, p) := hf
  obtain ⟨xs, n, _, _, hl, hlen, hfl⟩ := DataW.trod_struct Try.underlying23 hf'
  rw [cellsOf_group] at hl
  obtain ⟨y0, y1, y2, y3, y4, rfl⟩ := list5 hlen
  obtain ⟨c0, c1, c2, c3, c4, hcs⟩ := list5 hl
  have e1 : Try.prog.cellsOf 3 = 1 := by kernel_rfl
  have e2 : Try.prog.cellsOf 2 = 1 := by kernel_rfl
  have t0 := hfl 0 _ rfl
  have t1 := hfl 1 _ rfl
  have t2 := hfl 2 _ rfl
  have t3 := hfl 3 _ rfl
  have t4 := hfl 4 _ rfl
  rw [hcs] at t0 t1 t2 t3 t4
  change DataW.trod enc Try.prog W 0 _ true n 2 (List.take (Try.prog.cellsOf 2) [c0, c1, c2, c3, c4]) = some y0 at t0
  change DataW.trod enc Try.prog W 0 _ true n 2 (List.take (Try.prog.cellsOf 2) [c1, c2, c3, c4]) = some y1 at t1
  change DataW.trod enc Try.prog W 0 _ true n 3 (List.take (Try.prog.cellsOf 3) [c2, c3, c4]) = some y2 at t2
  change DataW.trod enc Try.prog W 0 _ true n 3 (List.take (Try.prog.cellsOf 3) [c3, c4]) = some y3 at t3
  change DataW.trod enc Try.prog W 0 _ true n 3 (List.take (Try.prog.cellsOf 3) [c4]) = some y4 at t4
  rw [e1] at t2 t3 t4
  rw [e2] at t0 t1
  obtain ⟨k0, hk0, _, _⟩ := DataW.trod_int Try.underlying2 t0
  obtain ⟨k1, hk1, _, _⟩ := DataW.trod_int Try.underlying2 t1
  obtain ⟨k2, hk2, _, _⟩ := DataW.trod_int Try.underlying3 t2
  obtain ⟨k3, hk3, _, _⟩ := DataW.trod_int Try.underlying3 t3
  obtain ⟨k4, hk4, _, _⟩ := DataW.trod_int Try.underlying3 t4
  simp only [List.take, List.cons.injEq, and_true] at hk0 hk1 hk2 hk3 hk4
  subst hk0 hk1 hk2 hk3 hk4
  refine ⟨⟨k0, k1, k2, k3, k4⟩, ?_, trivial⟩
  show Value.agg cs = .agg #[.int .i64 k0, .int .i64 k1, .int .i64 k2, .int .i64 k3, .int .i64 k4]
  congr 1
  apply Array.ext'
  rw [hcs]
end Go.Proofs.Ytfljbipnjfciaab
end S1
