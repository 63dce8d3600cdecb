/-
  A SLICE OF SLICES OF BYTES THAT CAME IN, OPENED.
-/
import Derived.Test.YtfmgegkeidhdfaaWalk9
import Derived.Test.YtfmgegkeidhdfaaUpto
import Derived.ProofKit
import Derived.OpenShut
import Derived.Deep.Matrix
namespace Go.Proofs.Ytfmgegkeidhdfaa
open Go.ChangeShapes Go.WideShapes Go.ChangeAt Go.RowKit Go.Deep

theorem flat_bulk {H : Type} : ∀ (ls : List (List (BitVec 8))) (ds : List (DataW H)), ls.length = ds.length → (∀ k, k < ls.length → (ls.getD k []).length ≤ Rows.uptoBulk (ds.getD k .nil)) → ls.flatten.length ≤ Rows.uptoBulkAll ds
  | [], [], _, _ => by simp [Rows.uptoBulkAll]
  | [], _ :: _, h, _ => by simp at h
  | _ :: _, [], h, _ => by simp at h
  | l :: ls, d :: ds, h, hk => by
    have h0 := hk 0 (by simp)
    have h1 := flat_bulk ls ds (by simpa using h) (fun k hkk => hk (k + 1) (by simpa using hkk))
    simp only [List.flatten_cons, List.length_append, Rows.uptoBulkAll]
    simp only [List.getD_cons_zero] at h0
    omega
/-- The bytes of numbers. -/
def toBytes (zs : List Int) : List (BitVec 8) := zs.map fun n => BitVec.ofNat 8 n.toNat
theorem toBytes_length (zs : List Int) : (toBytes zs).length = zs.length := by simp [toBytes]
theorem bytes_row {W : World} {A : Option Addr} {L C : Nat} {Z : List Int} (h1 : L ≤ C) (h2 : C ≤ maxLen) (h3 : Z.length = C) (h4 : ∀ n ∈ Z, (Lit.int .u8 n).wf = true) (h5 : A = none → C = 0)
    (h6 : ∀ a', A = some a' → ∀ c, c < C → W.cell? (a'.add c) = some (.int .u8 (Z.getD c 0))) : Bytes W (.slice A L C) (toBytes (Z.take L)) := by
  have e : (toBytes (Z.take L)).length = L := by rw [toBytes_length, List.length_take]; omega
  refine ⟨A, C, by rw [e], by omega, h2, h5, fun k hk => ?_⟩
  rw [e] at hk
  cases A with
  | none => have := h5 rfl; omega
  | some x =>
    obtain ⟨b, off, spot⟩ := x
    have hspot : spot = none := by
      have h0 := World.cell?_spot (h6 _ rfl 0 (by omega))
      simpa [Addr.add] using h0
    subst hspot
    refine ⟨b, off, rfl, ?_⟩
    have hc := h6 _ rfl k (by omega)
    rw [add_plain] at hc
    rw [hc]
    have hk2 : k < (Z.take L).length := by rw [List.length_take]; omega
    have hg : Z.getD k 0 = (Z.take L)[k] := by
      simp only [List.getD, List.getElem?_eq_getElem (show k < Z.length by omega), Option.getD_some, List.getElem_take]
    have hw := bounds_u8 (h4 _ (List.mem_of_mem_take (List.getElem_mem hk2)))
    rw [hg]
    congr 2
    simp only [toBytes, List.getD, List.getElem?_map, List.getElem?_eq_getElem hk2, Option.map_some, Option.getD_some]
    unfold c8
    rw [BitVec.toNat_ofNat]
    omega

theorem open_lists {H : Type} {enc : TypeId × Value → H} {W : World} {base : Nat} {v : Value} {d : DataW H} {p : List MemPlace}
    (hv : Value.okWide Try.prog W .any base 42 v) (h : DataW.Trod enc Try.prog W 0 (fun _ => true) true 42 v d p) (hs : Rows.uptoBulk d ≤ 1048576) :
    ∃ ls, Lists W v ls ∧ ls.flatten.length ≤ 1048576 ∧ ls.length ≤ 1048576 := by
  obtain ⟨a0, len0, cap0, rfl⟩ := okWide_slice Try.underlying42 hv
  obtain ⟨fuel, hf⟩ := h
  rcases open_int_rows Try.underlying42 Try.underlying28 Try.underlying5 (by kernel_rfl) (by kernel_rfl) hf with ⟨hcs, _⟩ | ⟨x, l, c, A, L, C, Z, hcs, _, hl, hm, hx, hrow⟩
  · simp [Value.cells] at hcs
    obtain ⟨rfl, rfl, rfl⟩ := hcs
    exact ⟨[], ⟨none, 0, rfl, by simp, by decide, fun k hk => by simp at hk⟩, by simp, by simp⟩
  · simp [Value.cells] at hcs
    obtain ⟨rfl, rfl, rfl⟩ := hcs
    have hd := congrArg Prod.fst hx
    simp only at hd
    rw [hd] at hs
    simp only [Rows.uptoBulk] at hs
    have hlen : ((List.range len0).map fun r => toBytes ((Z r).take (L r))).length = len0 := by simp
    have hget : ∀ k, k < len0 → ((List.range len0).map fun r => toBytes ((Z r).take (L r))).getD k [] = toBytes ((Z k).take (L k)) := fun k hk => by
      simp [List.getD, hk]
    refine ⟨(List.range len0).map fun r => toBytes ((Z r).take (L r)), ⟨some x, cap0, by rw [hlen], by rw [hlen]; exact hl, hm, fun k hk => ?_⟩, ?_, ?_⟩
    · rw [hlen] at hk
      obtain ⟨g1, g2, g3, g4, g5, g6, g7⟩ := hrow k (by omega)
      obtain ⟨b, off, spot⟩ := x
      have hspot : spot = none := by
        have h0 := World.cell?_spot (hrow 0 (by omega)).1
        simpa [Addr.add] using h0
      subst hspot
      rw [add_plain] at g1
      refine ⟨b, off, _, rfl, g1, ?_⟩
      rw [hget k hk]
      exact bytes_row g2 g3 g4 g5 g6 (fun a' ha => (g7 a' ha).2)
    · have key := flat_bulk ((List.range len0).map fun r => toBytes ((Z r).take (L r))) ((List.range len0).map fun r => intRow .u8 (A r) (L r) (Z r)) (by simp) (fun k hk => by
        rw [hlen] at hk
        rw [hget k hk]
        have e : ((List.range len0).map fun r => (intRow .u8 (A r) (L r) (Z r) : DataW H)).getD k .nil = intRow .u8 (A k) (L k) (Z k) := by simp [List.getD, hk]
        rw [e, toBytes_length]
        obtain ⟨g1, g2, g3, g4, g5, g6, g7⟩ := hrow k (by omega)
        cases hA : A k with
        | none => rw [List.length_take]; have := g6 hA; omega
        | some aa =>
          simp only [intRow, Rows.uptoBulk]
          have := bulk_len (lits .u8 ((Z k).take (L k)) : List (DataW H))
          simp only [lits, List.length_map] at this
          simp only [lits]
          omega)
      omega
    · rw [hlen]
      have := bulk_len ((List.range len0).map fun r => (intRow .u8 (A r) (L r) (Z r) : DataW H))
      rw [List.length_map, List.length_range] at this
      omega
end Go.Proofs.Ytfmgegkeidhdfaa
