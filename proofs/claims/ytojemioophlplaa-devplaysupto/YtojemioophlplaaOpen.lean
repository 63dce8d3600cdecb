/-
  A SLICE OF BYTES THAT CAME IN, OPENED.
-/
import Derived.Test.YtojemioophlplaaBase2
import Derived.ProofKit
import Derived.OpenShut
import Derived.SizedLaws
namespace Go.Proofs.Ytojemioophlplaa
open Go.ChangeShapes Go.WideShapes Go.ChangeAt Go.RowKit

theorem bytes_byte : Try.prog.bytesOf 5 = 1 := by kernel_rfl
set_option maxRecDepth 100000 in
theorem open_bytes_n {N : Nat} {H : Type} {enc : TypeId × Value → H} {W : World} {base : Nat} {v : Value} {d : DataW H} {p : List MemPlace}
    (hv : Value.okWide Try.prog W .any base 30 v) (h : DataW.Trod enc Try.prog W 0 (fun _ => true) true 30 v d p)
    (hs : ∀ elems spare, d = .slice elems spare → elems.length + spare.length ≤ N) :
    ∃ l, Bytes W v l ∧ l.length ≤ N := by
  obtain ⟨a0, len0, cap0, rfl⟩ := okWide_slice Try.underlying30 hv
  obtain ⟨fuel, hf⟩ := h
  rcases open_ints Try.underlying30 Try.underlying5 (by kernel_rfl) hf with ⟨hcs, _⟩ | ⟨x, l, c, zs, hcs, _, hl, hm, hz, hx, hcell, hwz⟩
  · simp [Value.cells] at hcs
    obtain ⟨rfl, rfl, rfl⟩ := hcs
    exact ⟨[], Bytes.nil W, by simp⟩
  · simp [Value.cells] at hcs
    obtain ⟨rfl, rfl, rfl⟩ := hcs
    have hz' : zs.length = cap0 := by simpa using hz
    have hb := hs _ _ (congrArg Prod.fst hx)
    simp only [lits, List.length_map, List.length_take, List.length_drop] at hb
    have e : ((zs.take len0).map fun n => UInt8.ofNat n.toNat).length = len0 := by simp; omega
    refine ⟨(zs.take len0).map fun n => UInt8.ofNat n.toNat, ⟨some x, cap0, by rw [e], by omega, hm, fun h => by simp at h, fun k hk => ?_⟩, by omega⟩
    rw [e] at hk
    obtain ⟨b, off, spot⟩ := x
    have hc := hcell k (by omega)
    have hspot : spot = none := by
      have h0 := World.cell?_spot (hcell 0 (by omega))
      simpa [Addr.add] using h0
    subst hspot
    refine ⟨b, off, rfl, ?_⟩
    rw [add_plain] at hc
    rw [hc]
    have hk2 : k < (zs.take len0).length := by rw [List.length_take]; omega
    have hg : zs.getD k 0 = (zs.take len0)[k] := by
      simp only [List.getD, List.getElem?_eq_getElem (show k < zs.length by omega), Option.getD_some, List.getElem_take]
    have hw := bounds_u8 (hwz _ (List.mem_of_mem_take (List.getElem_mem hk2)))
    rw [hg]
    congr 2
    simp only [List.getD, List.getElem?_map, List.getElem?_eq_getElem hk2, Option.map_some, Option.getD_some]
    unfold c8
    rw [UInt8.toNat_ofNat']
    omega
set_option maxRecDepth 100000 in
theorem open_bytes {H : Type} {enc : TypeId × Value → H} {W : World} {base : Nat} {v : Value} {d : DataW H} {p : List MemPlace}
    (hv : Value.okWide Try.prog W .any base 30 v) (h : DataW.Trod enc Try.prog W 0 (fun _ => true) true 30 v d p)
    (hs : ∀ elems spare, d = .slice elems spare → (elems.length + spare.length) * Try.prog.bytesOf 5 ≤ reachBytes) :
    ∃ l, Bytes W v l ∧ l.length ≤ 140737488351232 :=
  open_bytes_n hv h fun elems spare e => by
    have := hs elems spare e
    rw [bytes_byte] at this
    simp only [reachBytes] at this
    omega
theorem sized_arg {H : Type} {P : Program} {ts : List TypeId} {ds : List (DataW H)} (h : (DataW.weightsEach P ts ds).all (· ≤ reachBytes) = true) {j : Nat} {t : TypeId} {d : DataW H} (ht : ts[j]? = some t) (hd : ds[j]? = some d) : ∀ n ∈ d.weights P t, n ≤ reachBytes := fun n hn => by
  have := List.all_eq_true.1 h _ (DataW.weights_mem_each ht hd n hn)
  simpa using this
end Go.Proofs.Ytojemioophlplaa
