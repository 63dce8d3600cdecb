/-
  THE TABLES, out of the rows condition.
-/
import Derived.Test.YtmkdmfjdhajiaaaGreatDoorGlob
import Derived.Lib.LaidU8
import Derived.ChangeSame
import Derived.OpenShut
import Derived.ProofKit
import Derived.Lay
import Derived.LaidOnce
import Derived.SevenTiedAt
namespace Go.Proofs.YtmkdmfjdhajiaaaGreatDoor
open Go.ChangeShapes Go.WideShapes Go.ChangeAt Go.RowKit Go.Lib
theorem gPow : Tryz.prog.globalNamed "internal/strconv.uint64pow10" = some 5 := by kernel_rfl
theorem tPow : (Tryz.prog.globals[5]?).map (·.type) = some 118 := by kernel_rfl
theorem gSuf : Tryz.prog.globalNamed "bursar/quant.suffixes" = some 1 := by kernel_rfl
theorem tSuf : (Tryz.prog.globals[1]?).map (·.type) = some 63 := by kernel_rfl
set_option maxRecDepth 100000 in
theorem pow_of {W : World} (h : VarReads Tryz.prog W "internal/strconv.uint64pow10" Rows.laid_internal_strconv_uint64pow10) : TabIs Tryz.prog W "internal/strconv.uint64pow10" .u64 pow10Tab := by
  obtain ⟨g, t, cs, fuel, p, hg, ht, hvar, hd⟩ := h
  obtain rfl := Option.some.inj (gPow.symm.trans hg)
  obtain rfl := Option.some.inj (tPow.symm.trans ht)
  unfold TabIs
  have e : (Rows.laid_internal_strconv_uint64pow10 : DataW Unit) = tabData .u64 pow10Tab := by kernel_rfl
  have hd' : DataW.trod (fun _ => ()) Tryz.prog W 0 (fun _ => true) false fuel 118 cs.toList = some (tabData .u64 pow10Tab, p) := e ▸ hd
  have hc := cells_of_tab Tryz.underlying118 Tryz.underlying58 (by kernel_rfl) (by kernel_rfl) hd'
  generalize pow10Tab = zs at hc ⊢
  exact hvar.trans (congrArg some (Array.toList_inj.1 (by rw [List.toList_toArray]; exact hc)))
set_option maxRecDepth 100000 in
/-- A row of the table of suffixes, read. -/
theorem row_of {W : World} {fuel : Nat} {cs : List Value} {x : DataW Unit × List MemPlace} {bs : List UInt8} {n : Int} (h : DataW.trod (fun _ => ()) Tryz.prog W 0 (fun _ => true) false fuel 62 cs = some x) (hx : x.1 = .agg [.lit (.string bs), .lit (.int .u64 n)]) :
    cs = [.string ⟨bs.toArray⟩, .int .u64 n] := by
  obtain ⟨y0, y1, m, rfl, hl, h0, h1⟩ := trod_struct2 Tryz.underlying62 h
  have e2 : Tryz.prog.cellsOf 62 = 2 := by kernel_rfl
  rw [e2] at hl
  match cs, hl with
  | [c0, c1], _ =>
    have es : Tryz.prog.cellsOf 9 = 1 := by kernel_rfl
    have eu : Tryz.prog.cellsOf 58 = 1 := by kernel_rfl
    change DataW.trod _ Tryz.prog W 0 _ false m 9 (List.take (Tryz.prog.cellsOf 9) [c0, c1]) = some y0 at h0
    change DataW.trod _ Tryz.prog W 0 _ false m 58 (List.take (Tryz.prog.cellsOf 58) [c1]) = some y1 at h1
    rw [es] at h0
    rw [eu] at h1
    obtain ⟨t, ht, q0, _⟩ := DataW.trod_string Tryz.underlying9 h0
    obtain ⟨k, hk, q1, _⟩ := DataW.trod_int Tryz.underlying58 h1
    simp only [List.take, List.cons.injEq, and_true] at ht hk
    subst ht hk q0 q1
    simp only [DataW.agg.injEq, List.cons.injEq, DataW.lit.injEq, Lit.string.injEq, Lit.int.injEq, true_and, and_true] at hx
    obtain ⟨hb, hn⟩ := hx
    rw [← hb, ← hn]
set_option maxRecDepth 100000 in
theorem suf_of {W : World} (h : VarReads Tryz.prog W "bursar/quant.suffixes" Rows.laid_bursar_quant_suffixes) : Suf W := by
  obtain ⟨g, t, cs, fuel, p, hg, ht, hvar, hd⟩ := h
  obtain rfl := Option.some.inj (gSuf.symm.trans hg)
  obtain rfl := Option.some.inj (tSuf.symm.trans ht)
  obtain ⟨xs, m, _, hx, hlen, hn, hel⟩ := DataW.trod_array Tryz.underlying63 hd
  have e2 : Tryz.prog.cellsOf 62 = 2 := by kernel_rfl
  have e24 : Tryz.prog.cellsOf 63 = 24 := by kernel_rfl
  rw [e24] at hlen
  simp only [e2] at hel
  have hl := congrArg Prod.fst hx
  simp only [Rows.laid_bursar_quant_suffixes, DataW.agg.injEq] at hl
  have key : ∀ i, i < 12 → ∀ bs n, (xs.map (·.1))[i]? = some (.agg [.lit (.string bs), .lit (.int .u64 n)]) → cs[i * 2]? = some (.string ⟨bs.toArray⟩) ∧ cs[i * 2 + 1]? = some (.int .u64 n) := fun i hi bs n hxi => by
    have h1 := hel i hi
    rw [List.getElem?_map] at hxi
    obtain ⟨x, hxx, hx1⟩ := Option.map_eq_some_iff.1 hxi
    rw [hxx] at h1
    have hc := row_of h1 hx1
    have g0 := congrArg (·[0]?) hc
    have g1 := congrArg (·[1]?) hc
    simp only [List.getElem?_take, List.getElem?_drop] at g0 g1
    simp at g0 g1
    exact ⟨g0, g1⟩
  rw [← hl] at key
  have k0 := key 0 (by decide) [109] 1 rfl
  have k1 := key 1 (by decide) [] 1000 rfl
  have k2 := key 2 (by decide) [107] 1000000 rfl
  have k3 := key 3 (by decide) [77] 1000000000 rfl
  have k4 := key 4 (by decide) [71] 1000000000000 rfl
  have k5 := key 5 (by decide) [84] 1000000000000000 rfl
  have k6 := key 6 (by decide) [80] 1000000000000000000 rfl
  have k7 := key 7 (by decide) [75, 105] 1024000 rfl
  have k8 := key 8 (by decide) [77, 105] 1048576000 rfl
  have k9 := key 9 (by decide) [71, 105] 1073741824000 rfl
  have k10 := key 10 (by decide) [84, 105] 1099511627776000 rfl
  have k11 := key 11 (by decide) [80, 105] 1125899906842624000 rfl
  have hcell := fun j => World.var?_cell hg hvar j
  intro j v hv
  rw [hcell j]
  match j, hv with
  | 0, hv => cases hv; exact k0.1
  | 1, hv => cases hv; exact k0.2
  | 2, hv => cases hv; exact k1.1
  | 3, hv => cases hv; exact k1.2
  | 4, hv => cases hv; exact k2.1
  | 5, hv => cases hv; exact k2.2
  | 6, hv => cases hv; exact k3.1
  | 7, hv => cases hv; exact k3.2
  | 8, hv => cases hv; exact k4.1
  | 9, hv => cases hv; exact k4.2
  | 10, hv => cases hv; exact k5.1
  | 11, hv => cases hv; exact k5.2
  | 12, hv => cases hv; exact k6.1
  | 13, hv => cases hv; exact k6.2
  | 14, hv => cases hv; exact k7.1
  | 15, hv => cases hv; exact k7.2
  | 16, hv => cases hv; exact k8.1
  | 17, hv => cases hv; exact k8.2
  | 18, hv => cases hv; exact k9.1
  | 19, hv => cases hv; exact k9.2
  | 20, hv => cases hv; exact k10.1
  | 21, hv => cases hv; exact k10.2
  | 22, hv => cases hv; exact k11.1
  | 23, hv => cases hv; exact k11.2
  | (j + 24), hv => simp [sufArr] at hv
end Go.Proofs.YtmkdmfjdhajiaaaGreatDoor
