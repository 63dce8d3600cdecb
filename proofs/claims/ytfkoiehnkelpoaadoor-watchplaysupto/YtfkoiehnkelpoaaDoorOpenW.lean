/-
  EVENTS THAT CAME IN, OPENED; the law's mark.
-/
import Derived.Test.YtfkoiehnkelpoaaDoorWtL
import Derived.ProofKit
import Derived.OpenShut
import Derived.SizedLaws
import Derived.Deep.Slices
import Derived.ChangeSame
import Derived.LaidLaws
import Derived.Lib.LaidU8
import Derived.Test.YtfkoiehnkelpoaaDoorRows
namespace Go.Proofs.YtfkoiehnkelpoaaDoor
open Go.ChangeShapes Go.WideShapes Go.ChangeAt Go.RowKit Go.Deep
theorem hasM {W : World} (h : W.ShapedOpen Tryd.prog) : L.HasM W := Tryd.laysM146.s1_3 W h
theorem sized_arg {H : Type} {P : Program} {ts : List TypeId} {ds : List (DataW H)} (h : (DataW.weightsEach P ts ds).all (· ≤ reachBytes) = true) {j : Nat} {t : TypeId} {d : DataW H} (ht : ts[j]? = some t) (hd : ds[j]? = some d) : ∀ n ∈ d.weights P t, n ≤ reachBytes := fun n hn => by
  have := List.all_eq_true.1 h _ (DataW.weights_mem_each ht hd n hn)
  simpa using this
theorem oStr_size (s : ByteArray) : s.data.toList.length = s.size := by simp
theorem oWeights_all {H : Type} {P : Program} {e : TypeId} {d : DataW H} {l : List (DataW H)} (h : d ∈ l) {n : Nat} (hn : n ∈ d.weights P e) : n ∈ DataW.weightsAll P e l := by
  induction l with
  | nil => simp at h
  | cons c l ih =>
    simp only [DataW.weightsAll, List.mem_append]
    rcases List.mem_cons.1 h with rfl | h
    · exact Or.inl hn
    · exact Or.inr (ih h)
theorem oCells_at {W : World} {a : Addr} {n : Nat} {cs : List Value} (h : W.cells? 0 a n = some cs) (j : Nat) (y : Value) (hy : cs[j]? = some y) : W.cell? (a.add j) = some y := by
  obtain ⟨_, h2, h3⟩ := World.cells?_some h
  have hj : j < cs.length := by
    rcases Nat.lt_or_ge j cs.length with q | q
    · exact q
    · rw [List.getElem?_eq_none q] at hy; simp at hy
  rw [h3 j (by omega)]; exact hy
theorem oText {H : Type} {enc : TypeId × Value → H} {W : World} {fuel : Nat} {cs : List Value} {x : DataW H × List MemPlace} (h : DataW.trod enc Tryd.prog W 0 (fun _ => true) true fuel 9 cs = some x)
    (hs : ∀ n ∈ x.1.weights Tryd.prog 9, n ≤ reachBytes) : ∃ t : ByteArray, cs = [.string t] ∧ t.size ≤ 140737488355328 := by
  obtain ⟨t, ht, hx, _⟩ := DataW.trod_string Tryd.underlying9 h
  refine ⟨t, ht, ?_⟩
  have := hs t.data.toList.length (by rw [hx]; simp [DataW.weights])
  rw [oStr_size] at this
  simp only [reachBytes] at this; omega
theorem oInt {H : Type} {enc : TypeId × Value → H} {W : World} {fuel : Nat} {cs : List Value} {x : DataW H × List MemPlace} {T : TypeId} (hT : Tryd.prog.underlying T = some (.int .i64)) (h : DataW.trod enc Tryd.prog W 0 (fun _ => true) true fuel T cs = some x) :
    ∃ k : Int, cs = [.int .i64 k] ∧ -9223372036854775808 ≤ k ∧ k ≤ 9223372036854775807 := by
  obtain ⟨k, hk, _, w⟩ := DataW.trod_int hT h
  have := bounds_i64 w
  exact ⟨k, hk, this.1, by omega⟩
set_option maxRecDepth 100000 in
/-- A slice of elements of a kind. -/
theorem oRow {α : Type} (K : Kd α) (ok : K.Ok) (hc : Tryd.prog.cellsOf K.t = K.k) (hby : Tryd.prog.bytesOf K.t = K.b) {H : Type} {enc : TypeId × Value → H} {W : World} (G : α → Prop)
    (el : ∀ (fuel : Nat) (cs : List Value) (x : DataW H × List MemPlace), DataW.trod enc Tryd.prog W 0 (fun _ => true) true fuel K.t cs = some x → (∀ n ∈ x.1.weights Tryd.prog K.t, n ≤ reachBytes) → ∃ y : α, cs = K.c y ∧ G y)
    {fuel : Nat} {cs : List Value} {x : DataW H × List MemPlace} (hf : DataW.trod enc Tryd.prog W 0 (fun _ => true) true fuel K.s cs = some x)
    (hs : ∀ n ∈ x.1.weights Tryd.prog K.s, n ≤ reachBytes) : ∃ v l, cs = [v] ∧ Row K W v l ∧ (∀ y ∈ l, G y) ∧ l.length * K.b ≤ 140737488355328 := by
  rcases open_slice ok.und hf with ⟨hcs, _⟩ | ⟨x, len0, cap0, m, n, D, Pl, hcs, _, hl, hm, hmm, hx, hrow⟩
  · exact ⟨_, [], hcs, Row.nil W, fun y hy => by simp at hy, by simp⟩
  · simp only [if_true] at hmm
    subst hmm
    have hd := congrArg Prod.fst hx
    simp only at hd
    rw [hd] at hs
    simp only [DataW.weights, ok.und] at hs
    have key : ∀ i, i < len0 → ∃ y : α, G y ∧ ∀ j z, (K.c y)[j]? = some z → W.cell? ((x.add (i * K.k)).add j) = some z := fun i hi => by
      obtain ⟨cs', hc', ht⟩ := hrow i (by omega)
      rw [hc] at hc'
      obtain ⟨y, rfl, hy⟩ := el _ _ _ ht (fun n hn => hs n (by
        simp only [List.mem_cons, List.mem_append]
        exact Or.inr (Or.inl (oWeights_all (List.mem_map.2 ⟨i, List.mem_range.2 hi, rfl⟩) hn))))
      exact ⟨y, hy, fun j z hz => oCells_at hc' j z hz⟩
    haveI : Inhabited α := ⟨K.z⟩
    obtain ⟨f, hf2⟩ := choose_lt key
    have hlen : ((List.range len0).map f).length = len0 := by simp
    have hget : ∀ k, k < len0 → ((List.range len0).map f).getD k K.z = f k := fun k hk => by simp [List.getD, hk]
    refine ⟨_, (List.range len0).map f, hcs, ⟨some x, _, by rw [hlen], by rw [hlen]; exact hl, hm, (fun h => by simp at h), fun k hk => ?_⟩, fun y hy => ?_, ?_⟩
    · rw [hlen] at hk
      obtain ⟨b, off, spot⟩ := x
      have hspot : spot = none := by
        have p0 : 0 < (K.c (f 0)).length := by rw [ok.len]; exact ok.pos
        have h1 := World.cell?_spot ((hf2 0 (by omega)).2 0 _ (List.getElem?_eq_getElem p0))
        simpa [Addr.add] using h1
      subst hspot
      refine ⟨b, off, rfl, fun j y hy => ?_⟩
      rw [hget k hk] at hy
      have := (hf2 k hk).2 j y hy
      rw [add_plain, add_plain] at this
      exact this
    · obtain ⟨i, hi, rfl⟩ := List.mem_map.1 hy
      exact (hf2 i (List.mem_range.1 hi)).1
    · have := hs _ (List.mem_cons_self)
      rw [hby] at this
      simp only [List.length_map, List.length_range, reachBytes] at this
      rw [hlen]
      exact Nat.le_trans (Nat.mul_le_mul_right K.b (Nat.le_add_right len0 _)) (Nat.le_trans this (by decide))
theorem pL5 {α : Type} {cs : List α} (h : cs.length = 5) : ∃ c0 c1 c2 c3 c4, cs = [c0, c1, c2, c3, c4] := by
  match cs, h with
  | [a, b, c, d, e], _ => exact ⟨a, b, c, d, e, rfl⟩
set_option maxRecDepth 100000 in
theorem oEv {H : Type} {enc : TypeId × Value → H} {W : World} {sp : Bool} {fuel : Nat} {cs : List Value} {x : DataW H × List MemPlace} (hf : DataW.trod enc Tryd.prog W 0 (fun _ => true) sp fuel 33 cs = some x) : ∃ y : Wt.Ev, cs = Wt.kE.c y ∧ y.Fit := by
  obtain ⟨xs, n, _, hx, hl, hlen, hfl⟩ := DataW.trod_struct Tryd.underlying33 hf
  rw [show Tryd.prog.cellsOf 33 = 5 by kernel_rfl] at hl
  obtain ⟨y0, y1, y2, y3, y4, rfl⟩ := pL5 hlen
  obtain ⟨c0, c1, c2, c3, c4, hcs⟩ := pL5 hl
  have t0 := hfl 0 _ rfl
  have t1 := hfl 1 _ rfl
  have t2 := hfl 2 _ rfl
  have t3 := hfl 3 _ rfl
  have t4 := hfl 4 _ rfl
  rw [hcs] at t0 t1 t2 t3 t4
  change DataW.trod enc Tryd.prog W 0 _ sp n 2 (List.take (Tryd.prog.cellsOf 2) [c0, c1, c2, c3, c4]) = some y0 at t0
  rw [show Tryd.prog.cellsOf 2 = 1 by kernel_rfl] at t0
  change DataW.trod enc Tryd.prog W 0 _ sp n 3 (List.take (Tryd.prog.cellsOf 3) [c1, c2, c3, c4]) = some y1 at t1
  rw [show Tryd.prog.cellsOf 3 = 1 by kernel_rfl] at t1
  change DataW.trod enc Tryd.prog W 0 _ sp n 4 (List.take (Tryd.prog.cellsOf 4) [c2, c3, c4]) = some y2 at t2
  rw [show Tryd.prog.cellsOf 4 = 1 by kernel_rfl] at t2
  change DataW.trod enc Tryd.prog W 0 _ sp n 9 (List.take (Tryd.prog.cellsOf 9) [c3, c4]) = some y3 at t3
  rw [show Tryd.prog.cellsOf 9 = 1 by kernel_rfl] at t3
  change DataW.trod enc Tryd.prog W 0 _ sp n 9 (List.take (Tryd.prog.cellsOf 9) [c4]) = some y4 at t4
  rw [show Tryd.prog.cellsOf 9 = 1 by kernel_rfl] at t4
  simp only [List.take] at t0 t1 t2 t3 t4
  obtain ⟨v0, e0, _, i0⟩ := DataW.trod_int Tryd.underlying2 t0
  obtain ⟨v1, e1, _, i1⟩ := DataW.trod_int Tryd.underlying3 t1
  obtain ⟨v2, e2, _⟩ := DataW.trod_bool Tryd.underlying4 t2
  obtain ⟨v3, e3, _⟩ := DataW.trod_string Tryd.underlying9 t3
  obtain ⟨v4, e4, _⟩ := DataW.trod_string Tryd.underlying9 t4
  simp only [List.cons.injEq, and_true] at e0 e1 e2 e3 e4
  subst e0 e1 e2 e3 e4
  have b0 := bounds_i64 i0
  have b1 := bounds_i64 i1
  refine ⟨⟨v0, v1, v2, v3, v4⟩, hcs, ?_⟩
  unfold Wt.Ev.Fit
  simp only
  exact ⟨b0.1, by have := b0.2; omega, b1.1, by have := b1.2; omega⟩
theorem okS : Wt.kS.Ok := ⟨fun _ => rfl, by decide, fun x u hu => by simp only [Wt.kS, List.mem_cons, List.not_mem_nil, or_false] at hu; subst hu; rfl, Tryd.underlying22, ⟨_, (by kernel_rfl : (Tryd.prog.info? 28).map (fun i => (i.zero, i.size, i.bytes)) = some (some (.slice none 0 0), 1, 24)), rfl⟩, by decide⟩
set_option maxRecDepth 100000 in
theorem open_events {H : Type} {enc : TypeId × Value → H} {W : World} {base : Nat} {v : Value} {d : DataW H} {p : List MemPlace}
    (hv : Value.okWide Tryd.prog W .any base 28 v) (h : DataW.Trod enc Tryd.prog W 0 (fun _ => true) true 28 v d p)
    (hs : ∀ n ∈ d.weights Tryd.prog 28, n ≤ reachBytes) : ∃ l, Row Wt.kE W v l ∧ (∀ e ∈ l, e.Fit) := by
  obtain ⟨a0, len0, cap0, rfl⟩ := okWide_slice Tryd.underlying28 hv
  obtain ⟨fuel, hf⟩ := h
  obtain ⟨v, l, e, h1, h2, _⟩ := oRow Wt.kE Wt.okE (by kernel_rfl) (by kernel_rfl) (fun o => o.Fit) (fun fuel cs x ht _ => oEv ht) hf hs
  simp only [Value.cells, List.cons.injEq, and_true] at e
  rw [e]
  exact ⟨l, h1, h2⟩
set_option maxRecDepth 100000 in
theorem open_nested {H : Type} {enc : TypeId × Value → H} {W : World} {base : Nat} {v : Value} {d : DataW H} {p : List MemPlace}
    (hv : Value.okWide Tryd.prog W .any base 22 v) (h : DataW.Trod enc Tryd.prog W 0 (fun _ => true) true 22 v d p)
    (hs : ∀ n ∈ d.weights Tryd.prog 22, n ≤ reachBytes) : ∃ ps, Wt.Nst W v ps := by
  obtain ⟨a0, len0, cap0, rfl⟩ := okWide_slice Tryd.underlying22 hv
  obtain ⟨fuel, hf⟩ := h
  obtain ⟨v, l, e, h1, h2, _⟩ := oRow Wt.kS okS (by kernel_rfl) (by kernel_rfl) (fun o => ∃ P, Row Wt.kE W o.v P) (fun fuel cs x ht hw => by
    obtain ⟨v', l', e', g1, -, -⟩ := oRow Wt.kE Wt.okE (by kernel_rfl) (by kernel_rfl) (fun o => o.Fit) (fun fuel cs x ht _ => oEv ht) ht hw
    obtain ⟨a, cap, ev, -, -⟩ := g1.len
    subst ev
    exact ⟨⟨a, l'.length, cap⟩, e', l', g1⟩) hf hs
  simp only [Value.cells, List.cons.injEq, and_true] at e
  rw [e]
  obtain ⟨F, hF⟩ : ∃ F : Wt.Sl → List Wt.Ev, ∀ o ∈ l, Row Wt.kE W o.v (F o) := ⟨fun o => Classical.epsilon fun P => Row Wt.kE W o.v P, fun o ho => Classical.epsilon_spec (h2 o ho)⟩
  refine ⟨l.map F, l, h1, by simp, fun k hk => ?_⟩
  rw [List.length_map] at hk
  have hm : l.getD k Wt.kS.z ∈ l := getD_in hk
  have e2 : (l.map F).getD k [] = F (l.getD k Wt.kS.z) := by
    rw [List.getD_eq_getElem?_getD, List.getD_eq_getElem?_getD, List.getElem?_map, List.getElem?_eq_getElem hk]; rfl
  rw [e2]
  exact hF _ hm
theorem gMark : Tryd.prog.globalNamed "bursar/bursarlaw22.mark" = some 0 := by kernel_rfl
theorem tMark : (Tryd.prog.globals[0]?).map (·.type) = some 33 := by kernel_rfl
set_option maxRecDepth 100000 in
theorem mark_of {W : World} (h : Lib.VarReads Tryd.prog W "bursar/bursarlaw22.mark" Rows.laid_bursar_bursarlaw22_mark) (hm : L.HasM W) : ∃ m, Wt.Gl m W := by
  obtain ⟨g, t, cs, fuel, p, hg, ht, hvar, hd⟩ := h
  obtain rfl := Option.some.inj (gMark.symm.trans hg)
  obtain rfl := Option.some.inj (tMark.symm.trans ht)
  obtain ⟨y, hy, -⟩ := oEv hd
  have hcell := fun j => World.var?_cell hg hvar j
  refine ⟨y, hm, fun i z hz => ?_⟩
  rw [hcell i, ← Array.getElem?_toList, hy]; exact hz
end Go.Proofs.YtfkoiehnkelpoaaDoor
