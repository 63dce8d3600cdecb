/-
  A LIST OF AMOUNTS THAT CAME IN, OPENED; THE VARIABLE mark.
-/
import Derived.Test.YtmkdmfjdhajiaaaGreatDoorFinds
import Derived.Test.YtmkdmfjdhajiaaaGreatDoorTabs
import Derived.SizedLaws
import Derived.Deep.Slices
namespace Go.Proofs.YtmkdmfjdhajiaaaGreatDoor
open Go.ChangeShapes Go.WideShapes Go.ChangeAt Go.RowKit Go.Lib Go.Deep
theorem cellsOf_amt : Tryz.prog.cellsOf 36 = 2 := by kernel_rfl
theorem bytesOf_amt : Tryz.prog.bytesOf 36 = 24 := by kernel_rfl
set_option maxRecDepth 100000 in
theorem amt_open {H : Type} {enc : TypeId × Value → H} {W : World} {sp : Bool} {fuel : Nat} {cs : List Value} {x : DataW H × List MemPlace} (h : DataW.trod enc Tryz.prog W 0 (fun _ => true) sp fuel 36 cs = some x) : ∃ y : Amt, cs = encA y := by
  obtain ⟨y0, y1, m, hx, hl, h0, h1⟩ := trod_struct2 Tryz.underlying36 h
  rw [cellsOf_amt] at hl
  match cs, hl with
  | [c0, c1], _ =>
    have es : Tryz.prog.cellsOf 9 = 1 := by kernel_rfl
    have eu : Tryz.prog.cellsOf 2 = 1 := by kernel_rfl
    change DataW.trod _ Tryz.prog W 0 _ sp m 9 (List.take (Tryz.prog.cellsOf 9) [c0, c1]) = some y0 at h0
    change DataW.trod _ Tryz.prog W 0 _ sp m 2 (List.take (Tryz.prog.cellsOf 2) [c1]) = some y1 at h1
    rw [es] at h0
    rw [eu] at h1
    obtain ⟨t, ht, _, _⟩ := DataW.trod_string Tryz.underlying9 h0
    obtain ⟨k, hk, _, _⟩ := DataW.trod_int Tryz.underlying2 h1
    simp only [List.take, List.cons.injEq, and_true] at ht hk
    subst ht hk
    exact ⟨(t, k), rfl⟩
set_option maxRecDepth 100000 in
theorem cells_at {W : World} {a : Addr} {n : Nat} {cs : List Value} (h : W.cells? 0 a n = some cs) (j : Nat) (y : Value) (hy : cs[j]? = some y) : W.cell? (a.add j) = some y := by
  obtain ⟨_, h2, h3⟩ := World.cells?_some h
  have hj : j < cs.length := by
    rcases Nat.lt_or_ge j cs.length with q | q
    · exact q
    · rw [List.getElem?_eq_none q] at hy; simp at hy
  rw [h3 j (by omega)]; exact hy
theorem addA_plain (b off j : Nat) : (⟨b, off, none⟩ : Addr).add j = ⟨b, off + j, none⟩ := by unfold Addr.add; split <;> simp_all
theorem sized_arg {H : Type} {P : Program} {ts : List TypeId} {ds : List (DataW H)} (h : (DataW.weightsEach P ts ds).all (· ≤ reachBytes) = true) {j : Nat} {t : TypeId} {d : DataW H} (ht : ts[j]? = some t) (hd : ds[j]? = some d) : ∀ n ∈ d.weights P t, n ≤ reachBytes := fun n hn => by
  have := List.all_eq_true.1 h _ (DataW.weights_mem_each ht hd n hn)
  simpa using this
set_option maxRecDepth 100000 in
theorem open_amts {H : Type} {enc : TypeId × Value → H} {W : World} {base : Nat} {v : Value} {d : DataW H} {p : List MemPlace}
    (hv : Value.okWide Tryz.prog W .any base 22 v) (h : DataW.Trod enc Tryz.prog W 0 (fun _ => true) true 22 v d p)
    (hs : ∀ n ∈ d.weights Tryz.prog 22, n ≤ reachBytes) : ∃ xs, Amts W v xs ∧ (xs.length + 1) * 24 ≤ 140737488355328 := by
  obtain ⟨a0, len0, cap0, rfl⟩ := okWide_slice Tryz.underlying22 hv
  obtain ⟨fuel, hf⟩ := h
  rcases open_slice Tryz.underlying22 hf with ⟨hcs, _⟩ | ⟨x, l, c, m, n, D, Pl, hcs, _, hl, hm, hmm, hx, hrow⟩
  · simp [Value.cells] at hcs
    obtain ⟨rfl, rfl, rfl⟩ := hcs
    exact ⟨[], ⟨none, 0, rfl, by simp, by decide, fun _ => rfl, fun k hk => by simp at hk⟩, by decide⟩
  · simp [Value.cells] at hcs
    obtain ⟨rfl, rfl, rfl⟩ := hcs
    simp only [if_true] at hmm
    subst hmm
    have hd := congrArg Prod.fst hx
    simp only at hd
    rw [hd] at hs
    simp only [DataW.weights, Tryz.underlying22] at hs
    have key : ∀ i, i < len0 → ∃ y : Amt, ∀ j z, (encA y)[j]? = some z → W.cell? ((x.add (i * 2)).add j) = some z := fun i hi => by
      obtain ⟨cs', hc, ht⟩ := hrow i (by omega)
      rw [cellsOf_amt] at hc
      obtain ⟨y, rfl⟩ := amt_open ht
      exact ⟨y, fun j z hz => cells_at hc j z hz⟩
    obtain ⟨f, hf⟩ := choose_lt key
    have hlen : ((List.range len0).map f).length = len0 := by simp
    have hget : ∀ k, k < len0 → ((List.range len0).map f).getD k (⟨#[]⟩, 0) = f k := fun k hk => by simp [List.getD, hk]
    refine ⟨(List.range len0).map f, ⟨some x, _, by rw [hlen], by rw [hlen]; exact hl, hm, fun h => by simp at h, fun k hk => ?_⟩, ?_⟩
    · rw [hlen] at hk
      obtain ⟨b, off, spot⟩ := x
      have hspot : spot = none := by
        have h0 := World.cell?_spot (hf 0 (by omega) 0 _ rfl)
        simpa [Addr.add] using h0
      subst hspot
      rw [hget k hk]
      have h0 := hf k hk 0 _ rfl
      have h1 := hf k hk 1 _ rfl
      rw [addA_plain, addA_plain] at h0 h1
      exact ⟨b, off, rfl, h0, h1⟩
    · have := hs _ (List.mem_cons_self)
      rw [bytesOf_amt] at this
      simp only [reachBytes, List.length_map, List.length_range] at this
      rw [hlen]
      omega
theorem gMark : Tryz.prog.globalNamed "bursar/bursarlaw03.mark" = some 0 := by kernel_rfl
theorem tMark : (Tryz.prog.globals[0]?).map (·.type) = some 36 := by kernel_rfl
set_option maxRecDepth 100000 in
theorem mark_of {W : World} (h : VarReads Tryz.prog W "bursar/bursarlaw03.mark" Rows.laid_bursar_bursarlaw03_mark) : ∃ m, Mark W m := by
  obtain ⟨g, t, cs, fuel, p, hg, ht, hvar, hd⟩ := h
  obtain rfl := Option.some.inj (gMark.symm.trans hg)
  obtain rfl := Option.some.inj (tMark.symm.trans ht)
  obtain ⟨y, hy⟩ := amt_open hd
  have hcell := fun j => World.var?_cell hg hvar j
  refine ⟨y, ?_, ?_⟩
  · rw [hcell 0, ← Array.getElem?_toList, hy]; rfl
  · rw [hcell 1, ← Array.getElem?_toList, hy]; rfl
end Go.Proofs.YtmkdmfjdhajiaaaGreatDoor
