/-
  OpenT, OpenB, OpenO, Upto, OpenU, joined.
-/
import Derived.Test.YtanpneahembhbaaGreatDoorObK
import Derived.ProofKit
import Derived.OpenShut
import Derived.SizedLaws
import Derived.Test.YtanpneahembhbaaGreatDoorObU
import Derived.Deep.Slices
import Derived.ChangeSame
import Derived.Test.YtanpneahembhbaaGreatDoorM3
import Derived.Test.YtanpneahembhbaaGreatDoorM1
import Derived.Test.YtanpneahembhbaaGreatDoorRows
section S0
namespace Go.Proofs.YtanpneahembhbaaGreatDoor
open Go.ChangeShapes Go.WideShapes Go.ChangeAt Go.RowKit
theorem hasM {W : World} (h : W.ShapedOpen Tryz.prog) : L.HasM W := Tryz.laysM146.s1_3 W h
end Go.Proofs.YtanpneahembhbaaGreatDoor
end S0

section S1
namespace Go.Proofs.YtanpneahembhbaaGreatDoor
open Go.ChangeShapes Go.WideShapes Go.ChangeAt Go.RowKit Go.Deep
theorem sized_arg {H : Type} {P : Program} {ts : List TypeId} {ds : List (DataW H)} (h : (DataW.weightsEach P ts ds).all (· ≤ reachBytes) = true) {j : Nat} {t : TypeId} {d : DataW H} (ht : ts[j]? = some t) (hd : ds[j]? = some d) : ∀ n ∈ d.weights P t, n ≤ reachBytes := fun n hn => by
  have := List.all_eq_true.1 h _ (DataW.weights_mem_each ht hd n hn)
  simpa using this
theorem oStr_size (s : ByteArray) : s.data.toList.length = s.size := by simp
theorem oWeights_all {H : Type} {P : Program} {e : TypeId} {d : DataW H} {l : List (DataW H)} (h : d ∈ l) {n : Nat} (hn : n ∈ d.weights P e) : n ∈ DataW.weightsAll P e l := by
  induction l with
  | nil => simp at h
  | cons c l ih =>
    simp only [DataW.weightsAll, List.mem_append]
    rcases List.mem_cons.1 h with rfl | h
    · exact Or.inl hn
    · exact Or.inr (ih h)
theorem oCells_at {W : World} {a : Addr} {n : Nat} {cs : List Value} (h : W.cells? 0 a n = some cs) (j : Nat) (y : Value) (hy : cs[j]? = some y) : W.cell? (a.add j) = some y := by
  obtain ⟨_, h2, h3⟩ := World.cells?_some h
  have hj : j < cs.length := by
    rcases Nat.lt_or_ge j cs.length with q | q
    · exact q
    · rw [List.getElem?_eq_none q] at hy; simp at hy
  rw [h3 j (by omega)]; exact hy
theorem oText {H : Type} {enc : TypeId × Value → H} {W : World} {fuel : Nat} {cs : List Value} {x : DataW H × List MemPlace} (h : DataW.trod enc Tryz.prog W 0 (fun _ => true) true fuel 9 cs = some x)
    (hs : ∀ n ∈ x.1.weights Tryz.prog 9, n ≤ reachBytes) : ∃ t : ByteArray, cs = [.string t] ∧ t.size ≤ 140737488355328 := by
  obtain ⟨t, ht, hx, _⟩ := DataW.trod_string Tryz.underlying9 h
  refine ⟨t, ht, ?_⟩
  have := hs t.data.toList.length (by rw [hx]; simp [DataW.weights])
  rw [oStr_size] at this
  simp only [reachBytes] at this; omega
theorem oInt {H : Type} {enc : TypeId × Value → H} {W : World} {fuel : Nat} {cs : List Value} {x : DataW H × List MemPlace} {T : TypeId} (hT : Tryz.prog.underlying T = some (.int .i64)) (h : DataW.trod enc Tryz.prog W 0 (fun _ => true) true fuel T cs = some x) :
    ∃ k : Int, cs = [.int .i64 k] ∧ -9223372036854775808 ≤ k ∧ k ≤ 9223372036854775807 := by
  obtain ⟨k, hk, _, w⟩ := DataW.trod_int hT h
  have := bounds_i64 w
  exact ⟨k, hk, this.1, by omega⟩
set_option maxRecDepth 100000 in
/-- A slice of elements of a kind. -/
theorem oRow {α : Type} (K : Kd α) (ok : K.Ok) (hc : Tryz.prog.cellsOf K.t = K.k) (hby : Tryz.prog.bytesOf K.t = K.b) {H : Type} {enc : TypeId × Value → H} {W : World} (G : α → Prop)
    (el : ∀ (fuel : Nat) (cs : List Value) (x : DataW H × List MemPlace), DataW.trod enc Tryz.prog W 0 (fun _ => true) true fuel K.t cs = some x → (∀ n ∈ x.1.weights Tryz.prog K.t, n ≤ reachBytes) → ∃ y : α, cs = K.c y ∧ G y)
    {fuel : Nat} {cs : List Value} {x : DataW H × List MemPlace} (hf : DataW.trod enc Tryz.prog W 0 (fun _ => true) true fuel K.s cs = some x)
    (hs : ∀ n ∈ x.1.weights Tryz.prog K.s, n ≤ reachBytes) : ∃ v l, cs = [v] ∧ Row K W v l ∧ (∀ y ∈ l, G y) ∧ l.length * K.b ≤ 140737488355328 := by
  rcases open_slice ok.und hf with ⟨hcs, _⟩ | ⟨x, len0, cap0, m, n, D, Pl, hcs, _, hl, hm, hmm, hx, hrow⟩
  · exact ⟨_, [], hcs, Row.nil W, fun y hy => by simp at hy, by simp⟩
  · simp only [if_true] at hmm
    subst hmm
    have hd := congrArg Prod.fst hx
    simp only at hd
    rw [hd] at hs
    simp only [DataW.weights, ok.und] at hs
    have key : ∀ i, i < len0 → ∃ y : α, G y ∧ ∀ j z, (K.c y)[j]? = some z → W.cell? ((x.add (i * K.k)).add j) = some z := fun i hi => by
      obtain ⟨cs', hc', ht⟩ := hrow i (by omega)
      rw [hc] at hc'
      obtain ⟨y, rfl, hy⟩ := el _ _ _ ht (fun n hn => hs n (by
        simp only [List.mem_cons, List.mem_append]
        exact Or.inr (Or.inl (oWeights_all (List.mem_map.2 ⟨i, List.mem_range.2 hi, rfl⟩) hn))))
      exact ⟨y, hy, fun j z hz => oCells_at hc' j z hz⟩
    haveI : Inhabited α := ⟨K.z⟩
    obtain ⟨f, hf2⟩ := choose_lt key
    have hlen : ((List.range len0).map f).length = len0 := by simp
    have hget : ∀ k, k < len0 → ((List.range len0).map f).getD k K.z = f k := fun k hk => by simp [List.getD, hk]
    refine ⟨_, (List.range len0).map f, hcs, ⟨some x, _, by rw [hlen], by rw [hlen]; exact hl, hm, (fun h => by simp at h), fun k hk => ?_⟩, fun y hy => ?_, ?_⟩
    · rw [hlen] at hk
      obtain ⟨b, off, spot⟩ := x
      have hspot : spot = none := by
        have p0 : 0 < (K.c (f 0)).length := by rw [ok.len]; exact ok.pos
        have h1 := World.cell?_spot ((hf2 0 (by omega)).2 0 _ (List.getElem?_eq_getElem p0))
        simpa [Addr.add] using h1
      subst hspot
      refine ⟨b, off, rfl, fun j y hy => ?_⟩
      rw [hget k hk] at hy
      have := (hf2 k hk).2 j y hy
      rw [add_plain, add_plain] at this
      exact this
    · obtain ⟨i, hi, rfl⟩ := List.mem_map.1 hy
      exact (hf2 i (List.mem_range.1 hi)).1
    · have := hs _ (List.mem_cons_self)
      rw [hby] at this
      simp only [List.length_map, List.length_range, reachBytes] at this
      rw [hlen]
      exact Nat.le_trans (Nat.mul_le_mul_right K.b (Nat.le_add_right len0 _)) (Nat.le_trans this (by decide))
theorem oL2 {α : Type} {cs : List α} (h : cs.length = 2) : ∃ c0 c1, cs = [c0, c1] := by
  match cs, h with
  | [c0, c1], _ => exact ⟨c0, c1, rfl⟩
theorem oL3 {α : Type} {cs : List α} (h : cs.length = 3) : ∃ c0 c1 c2, cs = [c0, c1, c2] := by
  match cs, h with
  | [c0, c1, c2], _ => exact ⟨c0, c1, c2, rfl⟩
theorem oL4 {α : Type} {cs : List α} (h : cs.length = 4) : ∃ c0 c1 c2 c3, cs = [c0, c1, c2, c3] := by
  match cs, h with
  | [c0, c1, c2, c3], _ => exact ⟨c0, c1, c2, c3, rfl⟩
theorem oL5 {α : Type} {cs : List α} (h : cs.length = 5) : ∃ c0 c1 c2 c3 c4, cs = [c0, c1, c2, c3, c4] := by
  match cs, h with
  | [c0, c1, c2, c3, c4], _ => exact ⟨c0, c1, c2, c3, c4, rfl⟩
theorem oL6 {α : Type} {cs : List α} (h : cs.length = 6) : ∃ c0 c1 c2 c3 c4 c5, cs = [c0, c1, c2, c3, c4, c5] := by
  match cs, h with
  | [c0, c1, c2, c3, c4, c5], _ => exact ⟨c0, c1, c2, c3, c4, c5, rfl⟩
theorem oL7 {α : Type} {cs : List α} (h : cs.length = 7) : ∃ c0 c1 c2 c3 c4 c5 c6, cs = [c0, c1, c2, c3, c4, c5, c6] := by
  match cs, h with
  | [c0, c1, c2, c3, c4, c5, c6], _ => exact ⟨c0, c1, c2, c3, c4, c5, c6, rfl⟩
set_option maxRecDepth 100000 in
theorem oAm {H : Type} {enc : TypeId × Value → H} {W : World} {fuel : Nat} {cs : List Value} {x : DataW H × List MemPlace} (h : DataW.trod enc Tryz.prog W 0 (fun _ => true) true fuel 37 cs = some x) (hs : ∀ n ∈ x.1.weights Tryz.prog 37, n ≤ reachBytes) : ∃ y : Am, cs = kAm.c y ∧ y.fit := by
  obtain ⟨xs, n, _, hx, hl, hlen, hfl⟩ := DataW.trod_struct Tryz.underlying37 h
  rw [show Tryz.prog.cellsOf 37 = 2 by kernel_rfl] at hl
  obtain ⟨y0, y1, rfl⟩ := oL2 hlen
  obtain ⟨c0, c1, hcs⟩ := oL2 hl
  have t0 := hfl 0 _ rfl
  have t1 := hfl 1 _ rfl
  rw [hcs] at t0 t1
  change DataW.trod enc Tryz.prog W 0 _ true n 9 (List.take (Tryz.prog.cellsOf 9) [c0, c1]) = some y0 at t0
  rw [show Tryz.prog.cellsOf 9 = 1 by kernel_rfl] at t0
  change DataW.trod enc Tryz.prog W 0 _ true n 2 (List.take (Tryz.prog.cellsOf 2) [c1]) = some y1 at t1
  rw [show Tryz.prog.cellsOf 2 = 1 by kernel_rfl] at t1
  simp only [List.take] at t0 t1
  have hd := congrArg Prod.fst hx
  simp only at hd
  have hw : ∀ (j : Nat) (t : TypeId) (y : DataW H), [9, 2][j]? = some t → [y0.1, y1.1][j]? = some y → ∀ m ∈ y.weights Tryz.prog t, m ≤ reachBytes := fun j t y h1 h2 m hm => hs m (by
    rw [hd]
    simp only [DataW.weights, Tryz.underlying37]
    exact DataW.weights_mem_each (j := j) h1 h2 m hm)
  obtain ⟨v0, e0, s0⟩ := oText t0 (hw 0 _ _ rfl rfl)
  obtain ⟨v1, e1, s1⟩ := oInt Tryz.underlying2 t1
  simp only [List.cons.injEq, and_true] at e0 e1
  subst e0 e1
  exact ⟨⟨v0, v1⟩, hcs, s0, s1.1, s1.2⟩
set_option maxRecDepth 100000 in
theorem oLb {H : Type} {enc : TypeId × Value → H} {W : World} {fuel : Nat} {cs : List Value} {x : DataW H × List MemPlace} (h : DataW.trod enc Tryz.prog W 0 (fun _ => true) true fuel 84 cs = some x) (hs : ∀ n ∈ x.1.weights Tryz.prog 84, n ≤ reachBytes) : ∃ y : ByteArray × ByteArray, cs = kLb.c y ∧ (y.1.size ≤ 140737488355328 ∧ y.2.size ≤ 140737488355328) := by
  obtain ⟨xs, n, _, hx, hl, hlen, hfl⟩ := DataW.trod_struct Tryz.underlying84 h
  rw [show Tryz.prog.cellsOf 84 = 2 by kernel_rfl] at hl
  obtain ⟨y0, y1, rfl⟩ := oL2 hlen
  obtain ⟨c0, c1, hcs⟩ := oL2 hl
  have t0 := hfl 0 _ rfl
  have t1 := hfl 1 _ rfl
  rw [hcs] at t0 t1
  change DataW.trod enc Tryz.prog W 0 _ true n 9 (List.take (Tryz.prog.cellsOf 9) [c0, c1]) = some y0 at t0
  rw [show Tryz.prog.cellsOf 9 = 1 by kernel_rfl] at t0
  change DataW.trod enc Tryz.prog W 0 _ true n 9 (List.take (Tryz.prog.cellsOf 9) [c1]) = some y1 at t1
  rw [show Tryz.prog.cellsOf 9 = 1 by kernel_rfl] at t1
  simp only [List.take] at t0 t1
  have hd := congrArg Prod.fst hx
  simp only at hd
  have hw : ∀ (j : Nat) (t : TypeId) (y : DataW H), [9, 9][j]? = some t → [y0.1, y1.1][j]? = some y → ∀ m ∈ y.weights Tryz.prog t, m ≤ reachBytes := fun j t y h1 h2 m hm => hs m (by
    rw [hd]
    simp only [DataW.weights, Tryz.underlying84]
    exact DataW.weights_mem_each (j := j) h1 h2 m hm)
  obtain ⟨v0, e0, s0⟩ := oText t0 (hw 0 _ _ rfl rfl)
  obtain ⟨v1, e1, s1⟩ := oText t1 (hw 1 _ _ rfl rfl)
  simp only [List.cons.injEq, and_true] at e0 e1
  subst e0 e1
  exact ⟨(v0, v1), hcs, s0, s1⟩
theorem oAms {H : Type} {enc : TypeId × Value → H} {W : World} {fuel : Nat} {cs : List Value} {x : DataW H × List MemPlace} (h : DataW.trod enc Tryz.prog W 0 (fun _ => true) true fuel 24 cs = some x) (hs : ∀ n ∈ x.1.weights Tryz.prog 24, n ≤ reachBytes) : ∃ v l, cs = [v] ∧ Row kAm W v l ∧ (∀ y ∈ l, y.fit) ∧ l.length * kAm.b ≤ 140737488355328 :=
  oRow kAm okAm (by kernel_rfl) (by kernel_rfl) (fun y => y.fit) (fun _ _ _ h hs => oAm h hs) h hs
theorem oLbs {H : Type} {enc : TypeId × Value → H} {W : World} {fuel : Nat} {cs : List Value} {x : DataW H × List MemPlace} (h : DataW.trod enc Tryz.prog W 0 (fun _ => true) true fuel 50 cs = some x) (hs : ∀ n ∈ x.1.weights Tryz.prog 50, n ≤ reachBytes) : ∃ v l, cs = [v] ∧ Row kLb W v l ∧ (∀ y ∈ l, (y.1.size ≤ 140737488355328 ∧ y.2.size ≤ 140737488355328)) ∧ l.length * kLb.b ≤ 140737488355328 :=
  oRow kLb okLb (by kernel_rfl) (by kernel_rfl) (fun y => (y.1.size ≤ 140737488355328 ∧ y.2.size ≤ 140737488355328)) (fun _ _ _ h hs => oLb h hs) h hs
set_option maxRecDepth 100000 in
theorem oPt {H : Type} {enc : TypeId × Value → H} {W : World} {fuel : Nat} {cs : List Value} {x : DataW H × List MemPlace} (h : DataW.trod enc Tryz.prog W 0 (fun _ => true) true fuel 77 cs = some x) (hs : ∀ n ∈ x.1.weights Tryz.prog 77, n ≤ reachBytes) : ∃ y : Pr, cs = kPt.c y ∧ ∃ q : Pt, (y.n = q.n ∧ Row kAm W y.r.v q.r ∧ Row kAm W y.l.v q.l) ∧ (q.n.size ≤ 140737488355328 ∧ (∀ z ∈ q.r, z.fit) ∧ (∀ z ∈ q.l, z.fit)) ∧ q.r.length * 24 ≤ 140737488355328 ∧ q.l.length * 24 ≤ 140737488355328 := by
  obtain ⟨xs, n, _, hx, hl, hlen, hfl⟩ := DataW.trod_struct Tryz.underlying77 h
  rw [show Tryz.prog.cellsOf 77 = 3 by kernel_rfl] at hl
  obtain ⟨y0, y1, y2, rfl⟩ := oL3 hlen
  obtain ⟨c0, c1, c2, hcs⟩ := oL3 hl
  have t0 := hfl 0 _ rfl
  have t1 := hfl 1 _ rfl
  have t2 := hfl 2 _ rfl
  rw [hcs] at t0 t1 t2
  change DataW.trod enc Tryz.prog W 0 _ true n 9 (List.take (Tryz.prog.cellsOf 9) [c0, c1, c2]) = some y0 at t0
  rw [show Tryz.prog.cellsOf 9 = 1 by kernel_rfl] at t0
  change DataW.trod enc Tryz.prog W 0 _ true n 24 (List.take (Tryz.prog.cellsOf 24) [c1, c2]) = some y1 at t1
  rw [show Tryz.prog.cellsOf 24 = 1 by kernel_rfl] at t1
  change DataW.trod enc Tryz.prog W 0 _ true n 24 (List.take (Tryz.prog.cellsOf 24) [c2]) = some y2 at t2
  rw [show Tryz.prog.cellsOf 24 = 1 by kernel_rfl] at t2
  simp only [List.take] at t0 t1 t2
  have hd := congrArg Prod.fst hx
  simp only at hd
  have hw : ∀ (j : Nat) (t : TypeId) (y : DataW H), [9, 24, 24][j]? = some t → [y0.1, y1.1, y2.1][j]? = some y → ∀ m ∈ y.weights Tryz.prog t, m ≤ reachBytes := fun j t y h1 h2 m hm => hs m (by
    rw [hd]
    simp only [DataW.weights, Tryz.underlying77]
    exact DataW.weights_mem_each (j := j) h1 h2 m hm)
  obtain ⟨v0, e0, s0⟩ := oText t0 (hw 0 _ _ rfl rfl)
  obtain ⟨v1, l1, e1, r1, g1, b1⟩ := oAms t1 (hw 1 _ _ rfl rfl)
  obtain ⟨v2, l2, e2, r2, g2, b2⟩ := oAms t2 (hw 2 _ _ rfl rfl)
  simp only [List.cons.injEq, and_true] at e0 e1 e2
  subst e0 e1 e2
  obtain ⟨a1, n1, hv1, _⟩ := r1.len
  obtain ⟨a2, n2, hv2, _⟩ := r2.len
  refine ⟨⟨v0, ⟨a1, l1.length, n1⟩, ⟨a2, l2.length, n2⟩⟩, ?_, ⟨v0, l1, l2⟩, ⟨rfl, ?_, ?_⟩, ⟨s0, g1, g2⟩, b1, b2⟩
  · rw [hcs, hv1, hv2]; rfl
  · show Row kAm W (.slice a1 l1.length n1) l1; rw [← hv1]; exact r1
  · show Row kAm W (.slice a2 l2.length n2) l2; rw [← hv2]; exact r2
set_option maxRecDepth 100000 in
theorem oPts {H : Type} {enc : TypeId × Value → H} {W : World} {fuel : Nat} {cs : List Value} {x : DataW H × List MemPlace} (h : DataW.trod enc Tryz.prog W 0 (fun _ => true) true fuel 51 cs = some x) (hs : ∀ n ∈ x.1.weights Tryz.prog 51, n ≤ reachBytes) : ∃ v l, cs = [v] ∧ Pts W v l ∧ (∀ q ∈ l, (q.n.size ≤ 140737488355328 ∧ (∀ z ∈ q.r, z.fit) ∧ (∀ z ∈ q.l, z.fit)) ∧ q.r.length * 24 ≤ 140737488355328 ∧ q.l.length * 24 ≤ 140737488355328) ∧ l.length * 64 ≤ 140737488355328 := by
  obtain ⟨v, rs, hv, hr, hg, hb⟩ := oRow kPt okPt (by kernel_rfl) (by kernel_rfl) (fun y => ∃ q : Pt, (y.n = q.n ∧ Row kAm W y.r.v q.r ∧ Row kAm W y.l.v q.l) ∧ (q.n.size ≤ 140737488355328 ∧ (∀ z ∈ q.r, z.fit) ∧ (∀ z ∈ q.l, z.fit)) ∧ q.r.length * 24 ≤ 140737488355328 ∧ q.l.length * 24 ≤ 140737488355328) (fun _ _ _ h hs => oPt h hs) h hs
  have key : ∀ i, i < rs.length → ∃ q : Pt, ((rs.getD i kPt.z).n = q.n ∧ Row kAm W (rs.getD i kPt.z).r.v q.r ∧ Row kAm W (rs.getD i kPt.z).l.v q.l) ∧ (q.n.size ≤ 140737488355328 ∧ (∀ z ∈ q.r, z.fit) ∧ (∀ z ∈ q.l, z.fit)) ∧ q.r.length * 24 ≤ 140737488355328 ∧ q.l.length * 24 ≤ 140737488355328 := fun i hi => hg _ (getD_in hi)
  haveI : Inhabited Pt := ⟨⟨⟨#[]⟩, [], []⟩⟩
  obtain ⟨f, hf2⟩ := choose_lt key
  have hlen : ((List.range rs.length).map f).length = rs.length := by simp
  have hget : ∀ k, k < rs.length → ((List.range rs.length).map f).getD k ⟨⟨#[]⟩, [], []⟩ = f k := fun k hk => by simp [List.getD, hk]
  refine ⟨v, (List.range rs.length).map f, hv, ⟨rs, hr, hlen.symm, fun k hk => ?_⟩, fun q hq => ?_, by rw [hlen]; exact hb⟩
  · rw [hlen] at hk
    rw [hget k hk]
    exact (hf2 k hk).1
  · obtain ⟨i, hi, rfl⟩ := List.mem_map.1 hq
    exact (hf2 i (List.mem_range.1 hi)).2
set_option maxRecDepth 100000 in
theorem open_object {H : Type} {enc : TypeId × Value → H} {W : World} {base : Nat} {v : Value} {d : DataW H} {p : List MemPlace}
    (hv : Value.okWide Tryz.prog W .any base 53 v) (h : DataW.Trod enc Tryz.prog W 0 (fun _ => true) true 53 v d p)
    (hs : ∀ n ∈ d.weights Tryz.prog 53, n ≤ reachBytes) : ∃ (o : Ob) (ls ps : Value), v = o.val ls ps ∧ ObV W ls ps o ∧ o.Fit ∧ o.ls.length * 32 ≤ 140737488355328 ∧ o.ps.length * 64 ≤ 140737488355328 ∧ ∀ y ∈ o.ps, y.r.length * 24 ≤ 140737488355328 ∧ y.l.length * 24 ≤ 140737488355328 := by
  obtain ⟨cs, rfl, _⟩ := okWide_struct Tryz.underlying53 hv
  obtain ⟨fuel, hf⟩ := h
  have hf' : DataW.trod enc Tryz.prog W 0 (fun _ => true) true fuel 53 cs.toList = some (d, p) := hf
  obtain ⟨xs, n, _, hx, hl, hlen, hfl⟩ := DataW.trod_struct Tryz.underlying53 hf'
  rw [show Tryz.prog.cellsOf 53 = 7 by kernel_rfl] at hl
  obtain ⟨y0, y1, y2, y3, y4, y5, y6, rfl⟩ := oL7 hlen
  obtain ⟨c0, c1, c2, c3, c4, c5, c6, hcs⟩ := oL7 hl
  have t0 := hfl 0 _ rfl
  have t1 := hfl 1 _ rfl
  have t2 := hfl 2 _ rfl
  have t3 := hfl 3 _ rfl
  have t4 := hfl 4 _ rfl
  have t5 := hfl 5 _ rfl
  have t6 := hfl 6 _ rfl
  rw [hcs] at t0 t1 t2 t3 t4 t5 t6
  change DataW.trod enc Tryz.prog W 0 _ true n 9 (List.take (Tryz.prog.cellsOf 9) [c0, c1, c2, c3, c4, c5, c6]) = some y0 at t0
  rw [show Tryz.prog.cellsOf 9 = 1 by kernel_rfl] at t0
  change DataW.trod enc Tryz.prog W 0 _ true n 9 (List.take (Tryz.prog.cellsOf 9) [c1, c2, c3, c4, c5, c6]) = some y1 at t1
  rw [show Tryz.prog.cellsOf 9 = 1 by kernel_rfl] at t1
  change DataW.trod enc Tryz.prog W 0 _ true n 50 (List.take (Tryz.prog.cellsOf 50) [c2, c3, c4, c5, c6]) = some y2 at t2
  rw [show Tryz.prog.cellsOf 50 = 1 by kernel_rfl] at t2
  change DataW.trod enc Tryz.prog W 0 _ true n 3 (List.take (Tryz.prog.cellsOf 3) [c3, c4, c5, c6]) = some y3 at t3
  rw [show Tryz.prog.cellsOf 3 = 1 by kernel_rfl] at t3
  change DataW.trod enc Tryz.prog W 0 _ true n 2 (List.take (Tryz.prog.cellsOf 2) [c4, c5, c6]) = some y4 at t4
  rw [show Tryz.prog.cellsOf 2 = 1 by kernel_rfl] at t4
  change DataW.trod enc Tryz.prog W 0 _ true n 51 (List.take (Tryz.prog.cellsOf 51) [c5, c6]) = some y5 at t5
  rw [show Tryz.prog.cellsOf 51 = 1 by kernel_rfl] at t5
  change DataW.trod enc Tryz.prog W 0 _ true n 2 (List.take (Tryz.prog.cellsOf 2) [c6]) = some y6 at t6
  rw [show Tryz.prog.cellsOf 2 = 1 by kernel_rfl] at t6
  simp only [List.take] at t0 t1 t2 t3 t4 t5 t6
  have hd := congrArg Prod.fst hx
  simp only at hd
  have hw : ∀ (j : Nat) (t : TypeId) (y : DataW H), [9, 9, 50, 3, 2, 51, 2][j]? = some t → [y0.1, y1.1, y2.1, y3.1, y4.1, y5.1, y6.1][j]? = some y → ∀ m ∈ y.weights Tryz.prog t, m ≤ reachBytes := fun j t y h1 h2 m hm => hs m (by
    rw [hd]
    simp only [DataW.weights, Tryz.underlying53]
    exact DataW.weights_mem_each (j := j) h1 h2 m hm)
  obtain ⟨v0, e0, s0⟩ := oText t0 (hw 0 _ _ rfl rfl)
  obtain ⟨v1, e1, s1⟩ := oText t1 (hw 1 _ _ rfl rfl)
  obtain ⟨v2, l2, e2, r2, g2, b2⟩ := oLbs t2 (hw 2 _ _ rfl rfl)
  obtain ⟨v3, e3, s3⟩ := oInt Tryz.underlying3 t3
  obtain ⟨v4, e4, s4⟩ := oInt Tryz.underlying2 t4
  obtain ⟨v5, l5, e5, r5, g5, b5⟩ := oPts t5 (hw 5 _ _ rfl rfl)
  obtain ⟨v6, e6, s6⟩ := oInt Tryz.underlying2 t6
  simp only [List.cons.injEq, and_true] at e0 e1 e2 e3 e4 e5 e6
  subst e0 e1 e2 e3 e4 e5 e6
  have ev : Value.agg cs = .agg #[.string v0, .string v1, c2, .int .i64 v3, .int .i64 v4, c5, .int .i64 v6] := by
    congr 1
    apply Array.ext'
    rw [hcs]
  exact ⟨⟨v0, v1, l2, v3, v4, l5, v6⟩, _, _, ev, ⟨r2, r5⟩, ⟨⟨s0, s1⟩, g2, fun q hq => (g5 q hq).1, ⟨s3.1, s3.2, s4.1, s4.2, s6.1, s6.2⟩⟩, b2, b5, fun q hq => (g5 q hq).2⟩
end Go.Proofs.YtanpneahembhbaaGreatDoor
end S1

section S2
namespace Go.Proofs.YtanpneahembhbaaGreatDoor
open Go.ChangeShapes Go.WideShapes Go.ChangeAt Go.RowKit Go.Deep
set_option maxRecDepth 100000 in
theorem oRl {H : Type} {enc : TypeId × Value → H} {W : World} {fuel : Nat} {cs : List Value} {x : DataW H × List MemPlace} (h : DataW.trod enc Tryz.prog W 0 (fun _ => true) true fuel 60 cs = some x) (hs : ∀ n ∈ x.1.weights Tryz.prog 60, n ≤ reachBytes) : ∃ y : Rl, cs = kRl.c y ∧ y.Fit := by
  obtain ⟨xs, n, _, hx, hl, hlen, hfl⟩ := DataW.trod_struct Tryz.underlying60 h
  rw [show Tryz.prog.cellsOf 60 = 6 by kernel_rfl] at hl
  obtain ⟨y0, y1, y2, y3, y4, y5, rfl⟩ := oL6 hlen
  obtain ⟨c0, c1, c2, c3, c4, c5, hcs⟩ := oL6 hl
  have t0 := hfl 0 _ rfl
  have t1 := hfl 1 _ rfl
  have t2 := hfl 2 _ rfl
  have t3 := hfl 3 _ rfl
  have t4 := hfl 4 _ rfl
  have t5 := hfl 5 _ rfl
  rw [hcs] at t0 t1 t2 t3 t4 t5
  change DataW.trod enc Tryz.prog W 0 _ true n 9 (List.take (Tryz.prog.cellsOf 9) [c0, c1, c2, c3, c4, c5]) = some y0 at t0
  rw [show Tryz.prog.cellsOf 9 = 1 by kernel_rfl] at t0
  change DataW.trod enc Tryz.prog W 0 _ true n 2 (List.take (Tryz.prog.cellsOf 2) [c1, c2, c3, c4, c5]) = some y1 at t1
  rw [show Tryz.prog.cellsOf 2 = 1 by kernel_rfl] at t1
  change DataW.trod enc Tryz.prog W 0 _ true n 2 (List.take (Tryz.prog.cellsOf 2) [c2, c3, c4, c5]) = some y2 at t2
  rw [show Tryz.prog.cellsOf 2 = 1 by kernel_rfl] at t2
  change DataW.trod enc Tryz.prog W 0 _ true n 2 (List.take (Tryz.prog.cellsOf 2) [c3, c4, c5]) = some y3 at t3
  rw [show Tryz.prog.cellsOf 2 = 1 by kernel_rfl] at t3
  change DataW.trod enc Tryz.prog W 0 _ true n 2 (List.take (Tryz.prog.cellsOf 2) [c4, c5]) = some y4 at t4
  rw [show Tryz.prog.cellsOf 2 = 1 by kernel_rfl] at t4
  change DataW.trod enc Tryz.prog W 0 _ true n 2 (List.take (Tryz.prog.cellsOf 2) [c5]) = some y5 at t5
  rw [show Tryz.prog.cellsOf 2 = 1 by kernel_rfl] at t5
  simp only [List.take] at t0 t1 t2 t3 t4 t5
  have hd := congrArg Prod.fst hx
  simp only at hd
  have hw : ∀ (j : Nat) (t : TypeId) (y : DataW H), [9, 2, 2, 2, 2, 2][j]? = some t → [y0.1, y1.1, y2.1, y3.1, y4.1, y5.1][j]? = some y → ∀ m ∈ y.weights Tryz.prog t, m ≤ reachBytes := fun j t y h1 h2 m hm => hs m (by
    rw [hd]
    simp only [DataW.weights, Tryz.underlying60]
    exact DataW.weights_mem_each (j := j) h1 h2 m hm)
  obtain ⟨v0, e0, s0⟩ := oText t0 (hw 0 _ _ rfl rfl)
  obtain ⟨v1, e1, s1⟩ := oInt Tryz.underlying2 t1
  obtain ⟨v2, e2, s2⟩ := oInt Tryz.underlying2 t2
  obtain ⟨v3, e3, s3⟩ := oInt Tryz.underlying2 t3
  obtain ⟨v4, e4, s4⟩ := oInt Tryz.underlying2 t4
  obtain ⟨v5, e5, s5⟩ := oInt Tryz.underlying2 t5
  simp only [List.cons.injEq, and_true] at e0 e1 e2 e3 e4 e5
  subst e0 e1 e2 e3 e4 e5
  exact ⟨⟨v0, v1, v2, v3, v4, v5⟩, hcs, ⟨s0, ⟨s1.1, Int.lt_of_le_of_lt s1.2 (by decide)⟩, ⟨s2.1, Int.lt_of_le_of_lt s2.2 (by decide)⟩, ⟨s3.1, Int.lt_of_le_of_lt s3.2 (by decide)⟩, ⟨s4.1, Int.lt_of_le_of_lt s4.2 (by decide)⟩, ⟨s5.1, Int.lt_of_le_of_lt s5.2 (by decide)⟩⟩⟩
theorem oRls {H : Type} {enc : TypeId × Value → H} {W : World} {fuel : Nat} {cs : List Value} {x : DataW H × List MemPlace} (h : DataW.trod enc Tryz.prog W 0 (fun _ => true) true fuel 27 cs = some x) (hs : ∀ n ∈ x.1.weights Tryz.prog 27, n ≤ reachBytes) : ∃ v l, cs = [v] ∧ Row kRl W v l ∧ (∀ y ∈ l, y.Fit) ∧ l.length * kRl.b ≤ 140737488355328 :=
  oRow kRl okRl (by kernel_rfl) (by kernel_rfl) (fun y => y.Fit) (fun _ _ _ h hs => oRl h hs) h hs
set_option maxRecDepth 100000 in
theorem open_quota {H : Type} {enc : TypeId × Value → H} {W : World} {base : Nat} {v : Value} {d : DataW H} {p : List MemPlace}
    (hv : Value.okWide Tryz.prog W .any base 26 v) (h : DataW.Trod enc Tryz.prog W 0 (fun _ => true) true 26 v d p)
    (hs : ∀ n ∈ d.weights Tryz.prog 26, n ≤ reachBytes) : ∃ (q : Qt) (u : Value), v = q.val u ∧ Row kAm W u q.h ∧ q.Fit ∧ q.h.length * 24 ≤ 140737488355328 := by
  obtain ⟨cs, rfl, _⟩ := okWide_struct Tryz.underlying26 hv
  obtain ⟨fuel, hf⟩ := h
  have hf' : DataW.trod enc Tryz.prog W 0 (fun _ => true) true fuel 26 cs.toList = some (d, p) := hf
  obtain ⟨xs, n, _, hx, hl, hlen, hfl⟩ := DataW.trod_struct Tryz.underlying26 hf'
  rw [show Tryz.prog.cellsOf 26 = 5 by kernel_rfl] at hl
  obtain ⟨y0, y1, y2, y3, rfl⟩ := oL4 hlen
  obtain ⟨c0, c1, c2, c3, c4, hcs⟩ := oL5 hl
  have t0 := hfl 0 _ rfl
  have t1 := hfl 1 _ rfl
  have t2 := hfl 2 _ rfl
  have t3 := hfl 3 _ rfl
  rw [hcs] at t0 t1 t2 t3
  change DataW.trod enc Tryz.prog W 0 _ true n 9 (List.take (Tryz.prog.cellsOf 9) [c0, c1, c2, c3, c4]) = some y0 at t0
  rw [show Tryz.prog.cellsOf 9 = 1 by kernel_rfl] at t0
  change DataW.trod enc Tryz.prog W 0 _ true n 9 (List.take (Tryz.prog.cellsOf 9) [c1, c2, c3, c4]) = some y1 at t1
  rw [show Tryz.prog.cellsOf 9 = 1 by kernel_rfl] at t1
  change DataW.trod enc Tryz.prog W 0 _ true n 23 (List.take (Tryz.prog.cellsOf 23) [c2, c3, c4]) = some y2 at t2
  rw [show Tryz.prog.cellsOf 23 = 2 by kernel_rfl] at t2
  change DataW.trod enc Tryz.prog W 0 _ true n 24 (List.take (Tryz.prog.cellsOf 24) [c4]) = some y3 at t3
  rw [show Tryz.prog.cellsOf 24 = 1 by kernel_rfl] at t3
  simp only [List.take] at t0 t1 t2 t3
  have hd := congrArg Prod.fst hx
  simp only at hd
  have hw : ∀ (j : Nat) (t : TypeId) (y : DataW H), [9, 9, 23, 24][j]? = some t → [y0.1, y1.1, y2.1, y3.1][j]? = some y → ∀ m ∈ y.weights Tryz.prog t, m ≤ reachBytes := fun j t y h1 h2 m hm => hs m (by
    rw [hd]
    simp only [DataW.weights, Tryz.underlying26]
    exact DataW.weights_mem_each (j := j) h1 h2 m hm)
  obtain ⟨v0, e0, s0⟩ := oText t0 (hw 0 _ _ rfl rfl)
  obtain ⟨v1, e1, s1⟩ := oText t1 (hw 1 _ _ rfl rfl)
  obtain ⟨ms, nm, _, _, _, mlen, mfl⟩ := DataW.trod_struct Tryz.underlying23 t2
  obtain ⟨z0, z1, rfl⟩ := oL2 mlen
  have m0 := mfl 0 _ rfl
  have m1 := mfl 1 _ rfl
  change DataW.trod enc Tryz.prog W 0 _ true nm 3 (List.take (Tryz.prog.cellsOf 3) [c2, c3]) = some z0 at m0
  change DataW.trod enc Tryz.prog W 0 _ true nm 3 (List.take (Tryz.prog.cellsOf 3) [c3]) = some z1 at m1
  rw [show Tryz.prog.cellsOf 3 = 1 by kernel_rfl] at m0 m1
  simp only [List.take] at m0 m1
  obtain ⟨va, ea, sa⟩ := oInt Tryz.underlying3 m0
  obtain ⟨vb, eb, sb⟩ := oInt Tryz.underlying3 m1
  obtain ⟨v3, l3, e3, r3, g3, b3⟩ := oAms t3 (hw 3 _ _ rfl rfl)
  simp only [List.cons.injEq, and_true] at e0 e1 ea eb e3
  subst e0 e1 ea eb e3
  have ev : Value.agg cs = .agg #[.string v0, .string v1, .int .i64 va, .int .i64 vb, c4] := by
    congr 1
    apply Array.ext'
    rw [hcs]
  exact ⟨⟨v0, v1, va, vb, l3⟩, _, ev, r3, ⟨⟨s0, s1⟩, ⟨sa.1, sa.2, sb.1, sb.2⟩, g3⟩, b3⟩
set_option maxRecDepth 100000 in
theorem open_limit {H : Type} {enc : TypeId × Value → H} {W : World} {base : Nat} {v : Value} {d : DataW H} {p : List MemPlace}
    (hv : Value.okWide Tryz.prog W .any base 29 v) (h : DataW.Trod enc Tryz.prog W 0 (fun _ => true) true 29 v d p)
    (hs : ∀ n ∈ d.weights Tryz.prog 29, n ≤ reachBytes) : ∃ (q : Lr) (u : Value), v = q.val u ∧ Row kRl W u q.rs ∧ q.Fit ∧ q.rs.length * 56 ≤ 140737488355328 := by
  obtain ⟨cs, rfl, _⟩ := okWide_struct Tryz.underlying29 hv
  obtain ⟨fuel, hf⟩ := h
  have hf' : DataW.trod enc Tryz.prog W 0 (fun _ => true) true fuel 29 cs.toList = some (d, p) := hf
  obtain ⟨xs, n, _, hx, hl, hlen, hfl⟩ := DataW.trod_struct Tryz.underlying29 hf'
  rw [show Tryz.prog.cellsOf 29 = 3 by kernel_rfl] at hl
  obtain ⟨y0, y1, y2, rfl⟩ := oL3 hlen
  obtain ⟨c0, c1, c2, hcs⟩ := oL3 hl
  have t0 := hfl 0 _ rfl
  have t1 := hfl 1 _ rfl
  have t2 := hfl 2 _ rfl
  rw [hcs] at t0 t1 t2
  change DataW.trod enc Tryz.prog W 0 _ true n 9 (List.take (Tryz.prog.cellsOf 9) [c0, c1, c2]) = some y0 at t0
  rw [show Tryz.prog.cellsOf 9 = 1 by kernel_rfl] at t0
  change DataW.trod enc Tryz.prog W 0 _ true n 9 (List.take (Tryz.prog.cellsOf 9) [c1, c2]) = some y1 at t1
  rw [show Tryz.prog.cellsOf 9 = 1 by kernel_rfl] at t1
  change DataW.trod enc Tryz.prog W 0 _ true n 27 (List.take (Tryz.prog.cellsOf 27) [c2]) = some y2 at t2
  rw [show Tryz.prog.cellsOf 27 = 1 by kernel_rfl] at t2
  simp only [List.take] at t0 t1 t2
  have hd := congrArg Prod.fst hx
  simp only at hd
  have hw : ∀ (j : Nat) (t : TypeId) (y : DataW H), [9, 9, 27][j]? = some t → [y0.1, y1.1, y2.1][j]? = some y → ∀ m ∈ y.weights Tryz.prog t, m ≤ reachBytes := fun j t y h1 h2 m hm => hs m (by
    rw [hd]
    simp only [DataW.weights, Tryz.underlying29]
    exact DataW.weights_mem_each (j := j) h1 h2 m hm)
  obtain ⟨v0, e0, s0⟩ := oText t0 (hw 0 _ _ rfl rfl)
  obtain ⟨v1, e1, s1⟩ := oText t1 (hw 1 _ _ rfl rfl)
  obtain ⟨v2, l2, e2, r2, g2, b2⟩ := oRls t2 (hw 2 _ _ rfl rfl)
  simp only [List.cons.injEq, and_true] at e0 e1 e2
  subst e0 e1 e2
  have ev : Value.agg cs = .agg #[.string v0, .string v1, c2] := by
    congr 1
    apply Array.ext'
    rw [hcs]
  exact ⟨⟨v0, v1, l2⟩, _, ev, r2, ⟨⟨s0, s1⟩, g2⟩, b2⟩
set_option maxRecDepth 100000 in
theorem open_binding {H : Type} {enc : TypeId × Value → H} {W : World} {base : Nat} {v : Value} {d : DataW H} {p : List MemPlace}
    (hv : Value.okWide Tryz.prog W .any base 31 v) (h : DataW.Trod enc Tryz.prog W 0 (fun _ => true) true 31 v d p)
    (hs : ∀ n ∈ d.weights Tryz.prog 31, n ≤ reachBytes) : ∃ b : Bd, v = b.val ∧ b.Fit := by
  obtain ⟨cs, rfl, _⟩ := okWide_struct Tryz.underlying31 hv
  obtain ⟨fuel, hf⟩ := h
  have hf' : DataW.trod enc Tryz.prog W 0 (fun _ => true) true fuel 31 cs.toList = some (d, p) := hf
  obtain ⟨xs, n, _, hx, hl, hlen, hfl⟩ := DataW.trod_struct Tryz.underlying31 hf'
  rw [show Tryz.prog.cellsOf 31 = 4 by kernel_rfl] at hl
  obtain ⟨y0, y1, y2, y3, rfl⟩ := oL4 hlen
  obtain ⟨c0, c1, c2, c3, hcs⟩ := oL4 hl
  have t0 := hfl 0 _ rfl
  have t1 := hfl 1 _ rfl
  have t2 := hfl 2 _ rfl
  have t3 := hfl 3 _ rfl
  rw [hcs] at t0 t1 t2 t3
  change DataW.trod enc Tryz.prog W 0 _ true n 9 (List.take (Tryz.prog.cellsOf 9) [c0, c1, c2, c3]) = some y0 at t0
  rw [show Tryz.prog.cellsOf 9 = 1 by kernel_rfl] at t0
  change DataW.trod enc Tryz.prog W 0 _ true n 9 (List.take (Tryz.prog.cellsOf 9) [c1, c2, c3]) = some y1 at t1
  rw [show Tryz.prog.cellsOf 9 = 1 by kernel_rfl] at t1
  change DataW.trod enc Tryz.prog W 0 _ true n 9 (List.take (Tryz.prog.cellsOf 9) [c2, c3]) = some y2 at t2
  rw [show Tryz.prog.cellsOf 9 = 1 by kernel_rfl] at t2
  change DataW.trod enc Tryz.prog W 0 _ true n 3 (List.take (Tryz.prog.cellsOf 3) [c3]) = some y3 at t3
  rw [show Tryz.prog.cellsOf 3 = 1 by kernel_rfl] at t3
  simp only [List.take] at t0 t1 t2 t3
  have hd := congrArg Prod.fst hx
  simp only at hd
  have hw : ∀ (j : Nat) (t : TypeId) (y : DataW H), [9, 9, 9, 3][j]? = some t → [y0.1, y1.1, y2.1, y3.1][j]? = some y → ∀ m ∈ y.weights Tryz.prog t, m ≤ reachBytes := fun j t y h1 h2 m hm => hs m (by
    rw [hd]
    simp only [DataW.weights, Tryz.underlying31]
    exact DataW.weights_mem_each (j := j) h1 h2 m hm)
  obtain ⟨v0, e0, s0⟩ := oText t0 (hw 0 _ _ rfl rfl)
  obtain ⟨v1, e1, s1⟩ := oText t1 (hw 1 _ _ rfl rfl)
  obtain ⟨v2, e2, s2⟩ := oText t2 (hw 2 _ _ rfl rfl)
  obtain ⟨v3, e3, s3⟩ := oInt Tryz.underlying3 t3
  simp only [List.cons.injEq, and_true] at e0 e1 e2 e3
  subst e0 e1 e2 e3
  have ev : Value.agg cs = .agg #[.string v0, .string v1, .string v2, .int .i64 v3] := by
    congr 1
    apply Array.ext'
    rw [hcs]
  exact ⟨⟨v0, v1, v2, v3⟩, ev, ⟨⟨s0, s1, s2⟩, s3⟩⟩
end Go.Proofs.YtanpneahembhbaaGreatDoor
end S2

section S3
namespace Go.Proofs.YtanpneahembhbaaGreatDoor

theorem bulk_pos {H : Type} (d : DataW H) : 0 < Rows.uptoBulk d := by
  cases d with
  | lit l => cases l <;> simp [Rows.uptoBulk]
  | _ => simp [Rows.uptoBulk]
theorem bulk_len {H : Type} (l : List (DataW H)) : l.length ≤ Rows.uptoBulkAll l := by
  induction l with
  | nil => simp [Rows.uptoBulkAll]
  | cons d l ih => have := bulk_pos d; simp only [Rows.uptoBulkAll, List.length_cons]; omega
theorem bulk_mem {H : Type} {d : DataW H} {l : List (DataW H)} (h : d ∈ l) : Rows.uptoBulk d ≤ Rows.uptoBulkAll l := by
  induction l with
  | nil => simp at h
  | cons e l ih =>
    simp only [Rows.uptoBulkAll]
    rcases List.mem_cons.1 h with rfl | h
    · omega
    · have := ih h; omega
theorem upto_all {H : Type} {l : List (DataW H)} (hk : Rows.uptoSmall H l = true) : Rows.uptoBulkAll l ≤ 1048576 := of_decide_eq_true hk
theorem upto_mem {H : Type} {ds : List (DataW H)} {d : DataW H} (hk : Rows.uptoSmall H ds = true) (h : d ∈ ds) : Rows.uptoBulk d ≤ 1048576 :=
  Nat.le_trans (bulk_mem h) (upto_all hk)
theorem upto_slice {H : Type} {ds : List (DataW H)} (hk : Rows.uptoSmall H ds = true) {elems spare : List (DataW H)} (h : DataW.slice elems spare ∈ ds) : elems.length + spare.length ≤ 1048576 := by
  have h1 := bulk_mem h
  have h2 := upto_all hk
  have h3 := bulk_len elems
  have h4 := bulk_len spare
  simp only [Rows.uptoBulk] at h1
  omega
end Go.Proofs.YtanpneahembhbaaGreatDoor
end S3

section S4
namespace Go.Proofs.YtanpneahembhbaaGreatDoor
open Go.ChangeShapes Go.WideShapes Go.ChangeAt Go.RowKit Go.Deep
theorem uText {H : Type} {enc : TypeId × Value → H} {W : World} {fuel : Nat} {t : ByteArray} {x : DataW H × List MemPlace} (h : DataW.trod enc Tryz.prog W 0 (fun _ => true) true fuel 9 [.string t] = some x) : t.size ≤ Rows.uptoBulk x.1 := by
  obtain ⟨t', ht, hx, _⟩ := DataW.trod_string Tryz.underlying9 h
  simp only [List.cons.injEq, Value.string.injEq, and_true] at ht
  subst ht
  rw [hx]
  simp only [Rows.uptoBulk]
  rw [oStr_size]; omega
theorem uRow {α : Type} (K : Kd α) (ok : K.Ok) {H : Type} {enc : TypeId × Value → H} {W : World} {fuel : Nat} {a : Option Addr} {n c : Nat} {x : DataW H × List MemPlace} (h : DataW.trod enc Tryz.prog W 0 (fun _ => true) true fuel K.s [.slice a n c] = some x) : n ≤ Rows.uptoBulk x.1 := by
  rcases open_slice ok.und h with ⟨hcs, _⟩ | ⟨y, len0, cap0, m, k, D, Pl, hcs, _, hl, hm, hmm, hx, hrow⟩
  · simp only [List.cons.injEq, Value.slice.injEq, and_true] at hcs
    omega
  · simp only [List.cons.injEq, Value.slice.injEq, and_true] at hcs
    obtain ⟨_, rfl, _⟩ := hcs
    have hd := congrArg Prod.fst hx
    simp only at hd
    rw [hd]
    simp only [Rows.uptoBulk]
    have := bulk_len (H := H) ((List.range n).map D)
    simp only [List.length_map, List.length_range] at this
    omega
theorem uPart {H : Type} {d : DataW H} {ds : List (DataW H)} {n : Nat} (h : n ≤ Rows.uptoBulk d) (hm : d ∈ ds) : n ≤ Rows.uptoBulk (.agg ds) := by
  have := bulk_mem hm
  simp only [Rows.uptoBulk]
  omega
set_option maxRecDepth 100000 in
theorem quota_small {H : Type} {enc : TypeId × Value → H} {W : World} {d : DataW H} {p : List MemPlace} {ds : List (DataW H)} {q : Qt} {u : Value}
    (hk : Rows.uptoSmall H ds = true) (hm : d ∈ ds) (h : DataW.Trod enc Tryz.prog W 0 (fun _ => true) true 26 (q.val u) d p) (b : Row kAm W u q.h ∧ q.Fit ∧ q.h.length * 24 ≤ 140737488355328) : Row kAm W u q.h ∧ q.Fit ∧ q.p.size ≤ 1048576 ∧ q.h.length ≤ 2000000 := by
  have hB : Rows.uptoBulk d ≤ 1048576 := upto_mem hk hm
  obtain ⟨ua, uc, hu, _, _⟩ := b.1.len
  subst hu
  obtain ⟨fuel, hf⟩ := h
  have hf2 : DataW.trod enc Tryz.prog W 0 (fun _ => true) true fuel 26 [.string q.p, .string q.n, .int .i64 q.k, .int .i64 q.a, .slice ua q.h.length uc] = some (d, p) := hf
  obtain ⟨xs, n, _, hx, hl, hlen, hfl⟩ := DataW.trod_struct Tryz.underlying26 hf2
  obtain ⟨y0, y1, y2, y3, rfl⟩ := oL4 hlen
  have t0 := hfl 0 _ rfl
  change DataW.trod enc Tryz.prog W 0 _ true n 9 (List.take (Tryz.prog.cellsOf 9) [.string q.p, .string q.n, .int .i64 q.k, .int .i64 q.a, .slice ua q.h.length uc]) = some y0 at t0
  rw [show Tryz.prog.cellsOf 9 = 1 by kernel_rfl] at t0
  simp only [List.take] at t0
  have t3 := hfl 3 _ rfl
  change DataW.trod enc Tryz.prog W 0 _ true n 24 (List.take (Tryz.prog.cellsOf 24) [.slice ua q.h.length uc]) = some y3 at t3
  rw [show Tryz.prog.cellsOf 24 = 1 by kernel_rfl] at t3
  simp only [List.take] at t3
  have hd := congrArg Prod.fst hx
  simp only [List.map_cons, List.map_nil] at hd
  rw [hd] at hB
  have b0 := uPart (uText t0) (ds := [y0.1, y1.1, y2.1, y3.1]) (by simp)
  have b3 := uPart (uRow kAm okAm t3) (ds := [y0.1, y1.1, y2.1, y3.1]) (by simp)
  exact ⟨b.1, b.2.1, by omega, by omega⟩
set_option maxRecDepth 100000 in
theorem limit_small {H : Type} {enc : TypeId × Value → H} {W : World} {d : DataW H} {p : List MemPlace} {ds : List (DataW H)} {q : Lr} {u : Value}
    (hk : Rows.uptoSmall H ds = true) (hm : d ∈ ds) (h : DataW.Trod enc Tryz.prog W 0 (fun _ => true) true 29 (q.val u) d p) (b : Row kRl W u q.rs ∧ q.Fit ∧ q.rs.length * 56 ≤ 140737488355328) : Row kRl W u q.rs ∧ q.Fit ∧ q.p.size ≤ 1048576 ∧ q.rs.length ≤ 2000000 := by
  have hB : Rows.uptoBulk d ≤ 1048576 := upto_mem hk hm
  obtain ⟨ua, uc, hu, _, _⟩ := b.1.len
  subst hu
  obtain ⟨fuel, hf⟩ := h
  have hf2 : DataW.trod enc Tryz.prog W 0 (fun _ => true) true fuel 29 [.string q.p, .string q.n, .slice ua q.rs.length uc] = some (d, p) := hf
  obtain ⟨xs, n, _, hx, hl, hlen, hfl⟩ := DataW.trod_struct Tryz.underlying29 hf2
  obtain ⟨y0, y1, y2, rfl⟩ := oL3 hlen
  have t0 := hfl 0 _ rfl
  change DataW.trod enc Tryz.prog W 0 _ true n 9 (List.take (Tryz.prog.cellsOf 9) [.string q.p, .string q.n, .slice ua q.rs.length uc]) = some y0 at t0
  rw [show Tryz.prog.cellsOf 9 = 1 by kernel_rfl] at t0
  simp only [List.take] at t0
  have t2 := hfl 2 _ rfl
  change DataW.trod enc Tryz.prog W 0 _ true n 27 (List.take (Tryz.prog.cellsOf 27) [.slice ua q.rs.length uc]) = some y2 at t2
  rw [show Tryz.prog.cellsOf 27 = 1 by kernel_rfl] at t2
  simp only [List.take] at t2
  have hd := congrArg Prod.fst hx
  simp only [List.map_cons, List.map_nil] at hd
  rw [hd] at hB
  have b0 := uPart (uText t0) (ds := [y0.1, y1.1, y2.1]) (by simp)
  have b3 := uPart (uRow kRl okRl t2) (ds := [y0.1, y1.1, y2.1]) (by simp)
  exact ⟨b.1, b.2.1, by omega, by omega⟩
set_option maxRecDepth 100000 in
theorem binding_small {H : Type} {enc : TypeId × Value → H} {W : World} {d : DataW H} {p : List MemPlace} {ds : List (DataW H)} {q : Bd}
    (hk : Rows.uptoSmall H ds = true) (hm : d ∈ ds) (h : DataW.Trod enc Tryz.prog W 0 (fun _ => true) true 31 q.val d p) (b : q.Fit) : q.Fit ∧ q.p.size ≤ 1048576 := by
  have hB : Rows.uptoBulk d ≤ 1048576 := upto_mem hk hm
  obtain ⟨fuel, hf⟩ := h
  have hf2 : DataW.trod enc Tryz.prog W 0 (fun _ => true) true fuel 31 [.string q.p, .string q.n, .string q.s, .int .i64 q.v] = some (d, p) := hf
  obtain ⟨xs, n, _, hx, hl, hlen, hfl⟩ := DataW.trod_struct Tryz.underlying31 hf2
  obtain ⟨y0, y1, y2, y3, rfl⟩ := oL4 hlen
  have t0 := hfl 0 _ rfl
  change DataW.trod enc Tryz.prog W 0 _ true n 9 (List.take (Tryz.prog.cellsOf 9) [.string q.p, .string q.n, .string q.s, .int .i64 q.v]) = some y0 at t0
  rw [show Tryz.prog.cellsOf 9 = 1 by kernel_rfl] at t0
  simp only [List.take] at t0
  have hd := congrArg Prod.fst hx
  simp only [List.map_cons, List.map_nil] at hd
  rw [hd] at hB
  have b0 := uPart (uText t0) (ds := [y0.1, y1.1, y2.1, y3.1]) (by simp)
  exact ⟨b, by omega⟩
end Go.Proofs.YtanpneahembhbaaGreatDoor
end S4
