/-
  OBJECTS THAT CAME IN, OPENED.
-/
import Derived.Test.YtehgnbgbmicheaaGreatDoorObU
import Derived.Test.YtehgnbgbmicheaaGreatDoorOpenT
import Derived.ProofKit
import Derived.OpenShut
import Derived.SizedLaws
import Derived.Deep.Slices
import Derived.ChangeSame
namespace Go.Proofs.YtehgnbgbmicheaaGreatDoor
open Go.ChangeShapes Go.WideShapes Go.ChangeAt Go.RowKit Go.Deep
theorem sized_arg {H : Type} {P : Program} {ts : List TypeId} {ds : List (DataW H)} (h : (DataW.weightsEach P ts ds).all (· ≤ reachBytes) = true) {j : Nat} {t : TypeId} {d : DataW H} (ht : ts[j]? = some t) (hd : ds[j]? = some d) : ∀ n ∈ d.weights P t, n ≤ reachBytes := fun n hn => by
  have := List.all_eq_true.1 h _ (DataW.weights_mem_each ht hd n hn)
  simpa using this
theorem oStr_size (s : ByteArray) : s.data.toList.length = s.size := by simp
theorem oWeights_all {H : Type} {P : Program} {e : TypeId} {d : DataW H} {l : List (DataW H)} (h : d ∈ l) {n : Nat} (hn : n ∈ d.weights P e) : n ∈ DataW.weightsAll P e l := by
  induction l with
  | nil => simp at h
  | cons c l ih =>
    simp only [DataW.weightsAll, List.mem_append]
    rcases List.mem_cons.1 h with rfl | h
    · exact Or.inl hn
    · exact Or.inr (ih h)
theorem oCells_at {W : World} {a : Addr} {n : Nat} {cs : List Value} (h : W.cells? 0 a n = some cs) (j : Nat) (y : Value) (hy : cs[j]? = some y) : W.cell? (a.add j) = some y := by
  obtain ⟨_, h2, h3⟩ := World.cells?_some h
  have hj : j < cs.length := by
    rcases Nat.lt_or_ge j cs.length with q | q
    · exact q
    · rw [List.getElem?_eq_none q] at hy; simp at hy
  rw [h3 j (by omega)]; exact hy
theorem oText {H : Type} {enc : TypeId × Value → H} {W : World} {fuel : Nat} {cs : List Value} {x : DataW H × List MemPlace} (h : DataW.trod enc Tryz.prog W 0 (fun _ => true) true fuel 9 cs = some x)
    (hs : ∀ n ∈ x.1.weights Tryz.prog 9, n ≤ reachBytes) : ∃ t : ByteArray, cs = [.string t] ∧ t.size ≤ 140737488355328 := by
  obtain ⟨t, ht, hx, _⟩ := DataW.trod_string Tryz.underlying9 h
  refine ⟨t, ht, ?_⟩
  have := hs t.data.toList.length (by rw [hx]; simp [DataW.weights])
  rw [oStr_size] at this
  simp only [reachBytes] at this; omega
theorem oInt {H : Type} {enc : TypeId × Value → H} {W : World} {fuel : Nat} {cs : List Value} {x : DataW H × List MemPlace} {T : TypeId} (hT : Tryz.prog.underlying T = some (.int .i64)) (h : DataW.trod enc Tryz.prog W 0 (fun _ => true) true fuel T cs = some x) :
    ∃ k : Int, cs = [.int .i64 k] ∧ -9223372036854775808 ≤ k ∧ k ≤ 9223372036854775807 := by
  obtain ⟨k, hk, _, w⟩ := DataW.trod_int hT h
  have := bounds_i64 w
  exact ⟨k, hk, this.1, by omega⟩
set_option maxRecDepth 100000 in
/-- A slice of elements of a kind. -/
theorem oRow {α : Type} (K : Kd α) (ok : K.Ok) (hc : Tryz.prog.cellsOf K.t = K.k) (hby : Tryz.prog.bytesOf K.t = K.b) {H : Type} {enc : TypeId × Value → H} {W : World} (G : α → Prop)
    (el : ∀ (fuel : Nat) (cs : List Value) (x : DataW H × List MemPlace), DataW.trod enc Tryz.prog W 0 (fun _ => true) true fuel K.t cs = some x → (∀ n ∈ x.1.weights Tryz.prog K.t, n ≤ reachBytes) → ∃ y : α, cs = K.c y ∧ G y)
    {fuel : Nat} {cs : List Value} {x : DataW H × List MemPlace} (hf : DataW.trod enc Tryz.prog W 0 (fun _ => true) true fuel K.s cs = some x)
    (hs : ∀ n ∈ x.1.weights Tryz.prog K.s, n ≤ reachBytes) : ∃ v l, cs = [v] ∧ Row K W v l ∧ (∀ y ∈ l, G y) ∧ l.length * K.b ≤ 140737488355328 := by
  rcases open_slice ok.und hf with ⟨hcs, _⟩ | ⟨x, len0, cap0, m, n, D, Pl, hcs, _, hl, hm, hmm, hx, hrow⟩
  · exact ⟨_, [], hcs, Row.nil W, fun y hy => by simp at hy, by simp⟩
  · simp only [if_true] at hmm
    subst hmm
    have hd := congrArg Prod.fst hx
    simp only at hd
    rw [hd] at hs
    simp only [DataW.weights, ok.und] at hs
    have key : ∀ i, i < len0 → ∃ y : α, G y ∧ ∀ j z, (K.c y)[j]? = some z → W.cell? ((x.add (i * K.k)).add j) = some z := fun i hi => by
      obtain ⟨cs', hc', ht⟩ := hrow i (by omega)
      rw [hc] at hc'
      obtain ⟨y, rfl, hy⟩ := el _ _ _ ht (fun n hn => hs n (by
        simp only [List.mem_cons, List.mem_append]
        exact Or.inr (Or.inl (oWeights_all (List.mem_map.2 ⟨i, List.mem_range.2 hi, rfl⟩) hn))))
      exact ⟨y, hy, fun j z hz => oCells_at hc' j z hz⟩
    haveI : Inhabited α := ⟨K.z⟩
    obtain ⟨f, hf2⟩ := choose_lt key
    have hlen : ((List.range len0).map f).length = len0 := by simp
    have hget : ∀ k, k < len0 → ((List.range len0).map f).getD k K.z = f k := fun k hk => by simp [List.getD, hk]
    refine ⟨_, (List.range len0).map f, hcs, ⟨some x, _, by rw [hlen], by rw [hlen]; exact hl, hm, (fun h => by simp at h), fun k hk => ?_⟩, fun y hy => ?_, ?_⟩
    · rw [hlen] at hk
      obtain ⟨b, off, spot⟩ := x
      have hspot : spot = none := by
        have p0 : 0 < (K.c (f 0)).length := by rw [ok.len]; exact ok.pos
        have h1 := World.cell?_spot ((hf2 0 (by omega)).2 0 _ (List.getElem?_eq_getElem p0))
        simpa [Addr.add] using h1
      subst hspot
      refine ⟨b, off, rfl, fun j y hy => ?_⟩
      rw [hget k hk] at hy
      have := (hf2 k hk).2 j y hy
      rw [add_plain, add_plain] at this
      exact this
    · obtain ⟨i, hi, rfl⟩ := List.mem_map.1 hy
      exact (hf2 i (List.mem_range.1 hi)).1
    · have := hs _ (List.mem_cons_self)
      rw [hby] at this
      simp only [List.length_map, List.length_range, reachBytes] at this
      rw [hlen]
      exact Nat.le_trans (Nat.mul_le_mul_right K.b (Nat.le_add_right len0 _)) (Nat.le_trans this (by decide))
theorem oL2 {α : Type} {cs : List α} (h : cs.length = 2) : ∃ c0 c1, cs = [c0, c1] := by
  match cs, h with
  | [c0, c1], _ => exact ⟨c0, c1, rfl⟩
theorem oL3 {α : Type} {cs : List α} (h : cs.length = 3) : ∃ c0 c1 c2, cs = [c0, c1, c2] := by
  match cs, h with
  | [c0, c1, c2], _ => exact ⟨c0, c1, c2, rfl⟩
theorem oL4 {α : Type} {cs : List α} (h : cs.length = 4) : ∃ c0 c1 c2 c3, cs = [c0, c1, c2, c3] := by
  match cs, h with
  | [c0, c1, c2, c3], _ => exact ⟨c0, c1, c2, c3, rfl⟩
theorem oL5 {α : Type} {cs : List α} (h : cs.length = 5) : ∃ c0 c1 c2 c3 c4, cs = [c0, c1, c2, c3, c4] := by
  match cs, h with
  | [c0, c1, c2, c3, c4], _ => exact ⟨c0, c1, c2, c3, c4, rfl⟩
theorem oL6 {α : Type} {cs : List α} (h : cs.length = 6) : ∃ c0 c1 c2 c3 c4 c5, cs = [c0, c1, c2, c3, c4, c5] := by
  match cs, h with
  | [c0, c1, c2, c3, c4, c5], _ => exact ⟨c0, c1, c2, c3, c4, c5, rfl⟩
theorem oL7 {α : Type} {cs : List α} (h : cs.length = 7) : ∃ c0 c1 c2 c3 c4 c5 c6, cs = [c0, c1, c2, c3, c4, c5, c6] := by
  match cs, h with
  | [c0, c1, c2, c3, c4, c5, c6], _ => exact ⟨c0, c1, c2, c3, c4, c5, c6, rfl⟩
set_option maxRecDepth 100000 in
theorem oAm {H : Type} {enc : TypeId × Value → H} {W : World} {fuel : Nat} {cs : List Value} {x : DataW H × List MemPlace} (h : DataW.trod enc Tryz.prog W 0 (fun _ => true) true fuel 56 cs = some x) (hs : ∀ n ∈ x.1.weights Tryz.prog 56, n ≤ reachBytes) : ∃ y : Am, cs = kAm.c y ∧ y.fit := by
  obtain ⟨xs, n, _, hx, hl, hlen, hfl⟩ := DataW.trod_struct Tryz.underlying56 h
  rw [show Tryz.prog.cellsOf 56 = 2 by kernel_rfl] at hl
  obtain ⟨y0, y1, rfl⟩ := oL2 hlen
  obtain ⟨c0, c1, hcs⟩ := oL2 hl
  have t0 := hfl 0 _ rfl
  have t1 := hfl 1 _ rfl
  rw [hcs] at t0 t1
  change DataW.trod enc Tryz.prog W 0 _ true n 9 (List.take (Tryz.prog.cellsOf 9) [c0, c1]) = some y0 at t0
  rw [show Tryz.prog.cellsOf 9 = 1 by kernel_rfl] at t0
  change DataW.trod enc Tryz.prog W 0 _ true n 2 (List.take (Tryz.prog.cellsOf 2) [c1]) = some y1 at t1
  rw [show Tryz.prog.cellsOf 2 = 1 by kernel_rfl] at t1
  simp only [List.take] at t0 t1
  have hd := congrArg Prod.fst hx
  simp only at hd
  have hw : ∀ (j : Nat) (t : TypeId) (y : DataW H), [9, 2][j]? = some t → [y0.1, y1.1][j]? = some y → ∀ m ∈ y.weights Tryz.prog t, m ≤ reachBytes := fun j t y h1 h2 m hm => hs m (by
    rw [hd]
    simp only [DataW.weights, Tryz.underlying56]
    exact DataW.weights_mem_each (j := j) h1 h2 m hm)
  obtain ⟨v0, e0, s0⟩ := oText t0 (hw 0 _ _ rfl rfl)
  obtain ⟨v1, e1, s1⟩ := oInt Tryz.underlying2 t1
  simp only [List.cons.injEq, and_true] at e0 e1
  subst e0 e1
  exact ⟨⟨v0, v1⟩, hcs, s0, s1.1, s1.2⟩
set_option maxRecDepth 100000 in
theorem oLb {H : Type} {enc : TypeId × Value → H} {W : World} {fuel : Nat} {cs : List Value} {x : DataW H × List MemPlace} (h : DataW.trod enc Tryz.prog W 0 (fun _ => true) true fuel 44 cs = some x) (hs : ∀ n ∈ x.1.weights Tryz.prog 44, n ≤ reachBytes) : ∃ y : ByteArray × ByteArray, cs = kLb.c y ∧ (y.1.size ≤ 140737488355328 ∧ y.2.size ≤ 140737488355328) := by
  obtain ⟨xs, n, _, hx, hl, hlen, hfl⟩ := DataW.trod_struct Tryz.underlying44 h
  rw [show Tryz.prog.cellsOf 44 = 2 by kernel_rfl] at hl
  obtain ⟨y0, y1, rfl⟩ := oL2 hlen
  obtain ⟨c0, c1, hcs⟩ := oL2 hl
  have t0 := hfl 0 _ rfl
  have t1 := hfl 1 _ rfl
  rw [hcs] at t0 t1
  change DataW.trod enc Tryz.prog W 0 _ true n 9 (List.take (Tryz.prog.cellsOf 9) [c0, c1]) = some y0 at t0
  rw [show Tryz.prog.cellsOf 9 = 1 by kernel_rfl] at t0
  change DataW.trod enc Tryz.prog W 0 _ true n 9 (List.take (Tryz.prog.cellsOf 9) [c1]) = some y1 at t1
  rw [show Tryz.prog.cellsOf 9 = 1 by kernel_rfl] at t1
  simp only [List.take] at t0 t1
  have hd := congrArg Prod.fst hx
  simp only at hd
  have hw : ∀ (j : Nat) (t : TypeId) (y : DataW H), [9, 9][j]? = some t → [y0.1, y1.1][j]? = some y → ∀ m ∈ y.weights Tryz.prog t, m ≤ reachBytes := fun j t y h1 h2 m hm => hs m (by
    rw [hd]
    simp only [DataW.weights, Tryz.underlying44]
    exact DataW.weights_mem_each (j := j) h1 h2 m hm)
  obtain ⟨v0, e0, s0⟩ := oText t0 (hw 0 _ _ rfl rfl)
  obtain ⟨v1, e1, s1⟩ := oText t1 (hw 1 _ _ rfl rfl)
  simp only [List.cons.injEq, and_true] at e0 e1
  subst e0 e1
  exact ⟨(v0, v1), hcs, s0, s1⟩
theorem oAms {H : Type} {enc : TypeId × Value → H} {W : World} {fuel : Nat} {cs : List Value} {x : DataW H × List MemPlace} (h : DataW.trod enc Tryz.prog W 0 (fun _ => true) true fuel 50 cs = some x) (hs : ∀ n ∈ x.1.weights Tryz.prog 50, n ≤ reachBytes) : ∃ v l, cs = [v] ∧ Row kAm W v l ∧ (∀ y ∈ l, y.fit) ∧ l.length * kAm.b ≤ 140737488355328 :=
  oRow kAm okAm (by kernel_rfl) (by kernel_rfl) (fun y => y.fit) (fun _ _ _ h hs => oAm h hs) h hs
theorem oLbs {H : Type} {enc : TypeId × Value → H} {W : World} {fuel : Nat} {cs : List Value} {x : DataW H × List MemPlace} (h : DataW.trod enc Tryz.prog W 0 (fun _ => true) true fuel 22 cs = some x) (hs : ∀ n ∈ x.1.weights Tryz.prog 22, n ≤ reachBytes) : ∃ v l, cs = [v] ∧ Row kLb W v l ∧ (∀ y ∈ l, (y.1.size ≤ 140737488355328 ∧ y.2.size ≤ 140737488355328)) ∧ l.length * kLb.b ≤ 140737488355328 :=
  oRow kLb okLb (by kernel_rfl) (by kernel_rfl) (fun y => (y.1.size ≤ 140737488355328 ∧ y.2.size ≤ 140737488355328)) (fun _ _ _ h hs => oLb h hs) h hs
set_option maxRecDepth 100000 in
theorem oPt {H : Type} {enc : TypeId × Value → H} {W : World} {fuel : Nat} {cs : List Value} {x : DataW H × List MemPlace} (h : DataW.trod enc Tryz.prog W 0 (fun _ => true) true fuel 52 cs = some x) (hs : ∀ n ∈ x.1.weights Tryz.prog 52, n ≤ reachBytes) : ∃ y : Pr, cs = kPt.c y ∧ ∃ q : Pt, (y.n = q.n ∧ Row kAm W y.r.v q.r ∧ Row kAm W y.l.v q.l) ∧ (q.n.size ≤ 140737488355328 ∧ (∀ z ∈ q.r, z.fit) ∧ (∀ z ∈ q.l, z.fit)) ∧ q.r.length * 24 ≤ 140737488355328 ∧ q.l.length * 24 ≤ 140737488355328 := by
  obtain ⟨xs, n, _, hx, hl, hlen, hfl⟩ := DataW.trod_struct Tryz.underlying52 h
  rw [show Tryz.prog.cellsOf 52 = 3 by kernel_rfl] at hl
  obtain ⟨y0, y1, y2, rfl⟩ := oL3 hlen
  obtain ⟨c0, c1, c2, hcs⟩ := oL3 hl
  have t0 := hfl 0 _ rfl
  have t1 := hfl 1 _ rfl
  have t2 := hfl 2 _ rfl
  rw [hcs] at t0 t1 t2
  change DataW.trod enc Tryz.prog W 0 _ true n 9 (List.take (Tryz.prog.cellsOf 9) [c0, c1, c2]) = some y0 at t0
  rw [show Tryz.prog.cellsOf 9 = 1 by kernel_rfl] at t0
  change DataW.trod enc Tryz.prog W 0 _ true n 50 (List.take (Tryz.prog.cellsOf 50) [c1, c2]) = some y1 at t1
  rw [show Tryz.prog.cellsOf 50 = 1 by kernel_rfl] at t1
  change DataW.trod enc Tryz.prog W 0 _ true n 50 (List.take (Tryz.prog.cellsOf 50) [c2]) = some y2 at t2
  rw [show Tryz.prog.cellsOf 50 = 1 by kernel_rfl] at t2
  simp only [List.take] at t0 t1 t2
  have hd := congrArg Prod.fst hx
  simp only at hd
  have hw : ∀ (j : Nat) (t : TypeId) (y : DataW H), [9, 50, 50][j]? = some t → [y0.1, y1.1, y2.1][j]? = some y → ∀ m ∈ y.weights Tryz.prog t, m ≤ reachBytes := fun j t y h1 h2 m hm => hs m (by
    rw [hd]
    simp only [DataW.weights, Tryz.underlying52]
    exact DataW.weights_mem_each (j := j) h1 h2 m hm)
  obtain ⟨v0, e0, s0⟩ := oText t0 (hw 0 _ _ rfl rfl)
  obtain ⟨v1, l1, e1, r1, g1, b1⟩ := oAms t1 (hw 1 _ _ rfl rfl)
  obtain ⟨v2, l2, e2, r2, g2, b2⟩ := oAms t2 (hw 2 _ _ rfl rfl)
  simp only [List.cons.injEq, and_true] at e0 e1 e2
  subst e0 e1 e2
  obtain ⟨a1, n1, hv1, _⟩ := r1.len
  obtain ⟨a2, n2, hv2, _⟩ := r2.len
  refine ⟨⟨v0, ⟨a1, l1.length, n1⟩, ⟨a2, l2.length, n2⟩⟩, ?_, ⟨v0, l1, l2⟩, ⟨rfl, ?_, ?_⟩, ⟨s0, g1, g2⟩, b1, b2⟩
  · rw [hcs, hv1, hv2]; rfl
  · show Row kAm W (.slice a1 l1.length n1) l1; rw [← hv1]; exact r1
  · show Row kAm W (.slice a2 l2.length n2) l2; rw [← hv2]; exact r2
set_option maxRecDepth 100000 in
theorem oPts {H : Type} {enc : TypeId × Value → H} {W : World} {fuel : Nat} {cs : List Value} {x : DataW H × List MemPlace} (h : DataW.trod enc Tryz.prog W 0 (fun _ => true) true fuel 23 cs = some x) (hs : ∀ n ∈ x.1.weights Tryz.prog 23, n ≤ reachBytes) : ∃ v l, cs = [v] ∧ Pts W v l ∧ (∀ q ∈ l, (q.n.size ≤ 140737488355328 ∧ (∀ z ∈ q.r, z.fit) ∧ (∀ z ∈ q.l, z.fit)) ∧ q.r.length * 24 ≤ 140737488355328 ∧ q.l.length * 24 ≤ 140737488355328) ∧ l.length * 64 ≤ 140737488355328 := by
  obtain ⟨v, rs, hv, hr, hg, hb⟩ := oRow kPt okPt (by kernel_rfl) (by kernel_rfl) (fun y => ∃ q : Pt, (y.n = q.n ∧ Row kAm W y.r.v q.r ∧ Row kAm W y.l.v q.l) ∧ (q.n.size ≤ 140737488355328 ∧ (∀ z ∈ q.r, z.fit) ∧ (∀ z ∈ q.l, z.fit)) ∧ q.r.length * 24 ≤ 140737488355328 ∧ q.l.length * 24 ≤ 140737488355328) (fun _ _ _ h hs => oPt h hs) h hs
  have key : ∀ i, i < rs.length → ∃ q : Pt, ((rs.getD i kPt.z).n = q.n ∧ Row kAm W (rs.getD i kPt.z).r.v q.r ∧ Row kAm W (rs.getD i kPt.z).l.v q.l) ∧ (q.n.size ≤ 140737488355328 ∧ (∀ z ∈ q.r, z.fit) ∧ (∀ z ∈ q.l, z.fit)) ∧ q.r.length * 24 ≤ 140737488355328 ∧ q.l.length * 24 ≤ 140737488355328 := fun i hi => hg _ (getD_in hi)
  haveI : Inhabited Pt := ⟨⟨⟨#[]⟩, [], []⟩⟩
  obtain ⟨f, hf2⟩ := choose_lt key
  have hlen : ((List.range rs.length).map f).length = rs.length := by simp
  have hget : ∀ k, k < rs.length → ((List.range rs.length).map f).getD k ⟨⟨#[]⟩, [], []⟩ = f k := fun k hk => by simp [List.getD, hk]
  refine ⟨v, (List.range rs.length).map f, hv, ⟨rs, hr, hlen.symm, fun k hk => ?_⟩, fun q hq => ?_, by rw [hlen]; exact hb⟩
  · rw [hlen] at hk
    rw [hget k hk]
    exact (hf2 k hk).1
  · obtain ⟨i, hi, rfl⟩ := List.mem_map.1 hq
    exact (hf2 i (List.mem_range.1 hi)).2
set_option maxRecDepth 100000 in
theorem open_object {H : Type} {enc : TypeId × Value → H} {W : World} {base : Nat} {v : Value} {d : DataW H} {p : List MemPlace}
    (hv : Value.okWide Tryz.prog W .any base 25 v) (h : DataW.Trod enc Tryz.prog W 0 (fun _ => true) true 25 v d p)
    (hs : ∀ n ∈ d.weights Tryz.prog 25, n ≤ reachBytes) : ∃ (o : Ob) (ls ps : Value), v = o.val ls ps ∧ ObV W ls ps o ∧ o.Fit ∧ o.ls.length * 32 ≤ 140737488355328 ∧ o.ps.length * 64 ≤ 140737488355328 ∧ ∀ y ∈ o.ps, y.r.length * 24 ≤ 140737488355328 ∧ y.l.length * 24 ≤ 140737488355328 := by
  obtain ⟨cs, rfl, _⟩ := okWide_struct Tryz.underlying25 hv
  obtain ⟨fuel, hf⟩ := h
  have hf' : DataW.trod enc Tryz.prog W 0 (fun _ => true) true fuel 25 cs.toList = some (d, p) := hf
  obtain ⟨xs, n, _, hx, hl, hlen, hfl⟩ := DataW.trod_struct Tryz.underlying25 hf'
  rw [show Tryz.prog.cellsOf 25 = 7 by kernel_rfl] at hl
  obtain ⟨y0, y1, y2, y3, y4, y5, y6, rfl⟩ := oL7 hlen
  obtain ⟨c0, c1, c2, c3, c4, c5, c6, hcs⟩ := oL7 hl
  have t0 := hfl 0 _ rfl
  have t1 := hfl 1 _ rfl
  have t2 := hfl 2 _ rfl
  have t3 := hfl 3 _ rfl
  have t4 := hfl 4 _ rfl
  have t5 := hfl 5 _ rfl
  have t6 := hfl 6 _ rfl
  rw [hcs] at t0 t1 t2 t3 t4 t5 t6
  change DataW.trod enc Tryz.prog W 0 _ true n 9 (List.take (Tryz.prog.cellsOf 9) [c0, c1, c2, c3, c4, c5, c6]) = some y0 at t0
  rw [show Tryz.prog.cellsOf 9 = 1 by kernel_rfl] at t0
  change DataW.trod enc Tryz.prog W 0 _ true n 9 (List.take (Tryz.prog.cellsOf 9) [c1, c2, c3, c4, c5, c6]) = some y1 at t1
  rw [show Tryz.prog.cellsOf 9 = 1 by kernel_rfl] at t1
  change DataW.trod enc Tryz.prog W 0 _ true n 22 (List.take (Tryz.prog.cellsOf 22) [c2, c3, c4, c5, c6]) = some y2 at t2
  rw [show Tryz.prog.cellsOf 22 = 1 by kernel_rfl] at t2
  change DataW.trod enc Tryz.prog W 0 _ true n 3 (List.take (Tryz.prog.cellsOf 3) [c3, c4, c5, c6]) = some y3 at t3
  rw [show Tryz.prog.cellsOf 3 = 1 by kernel_rfl] at t3
  change DataW.trod enc Tryz.prog W 0 _ true n 2 (List.take (Tryz.prog.cellsOf 2) [c4, c5, c6]) = some y4 at t4
  rw [show Tryz.prog.cellsOf 2 = 1 by kernel_rfl] at t4
  change DataW.trod enc Tryz.prog W 0 _ true n 23 (List.take (Tryz.prog.cellsOf 23) [c5, c6]) = some y5 at t5
  rw [show Tryz.prog.cellsOf 23 = 1 by kernel_rfl] at t5
  change DataW.trod enc Tryz.prog W 0 _ true n 2 (List.take (Tryz.prog.cellsOf 2) [c6]) = some y6 at t6
  rw [show Tryz.prog.cellsOf 2 = 1 by kernel_rfl] at t6
  simp only [List.take] at t0 t1 t2 t3 t4 t5 t6
  have hd := congrArg Prod.fst hx
  simp only at hd
  have hw : ∀ (j : Nat) (t : TypeId) (y : DataW H), [9, 9, 22, 3, 2, 23, 2][j]? = some t → [y0.1, y1.1, y2.1, y3.1, y4.1, y5.1, y6.1][j]? = some y → ∀ m ∈ y.weights Tryz.prog t, m ≤ reachBytes := fun j t y h1 h2 m hm => hs m (by
    rw [hd]
    simp only [DataW.weights, Tryz.underlying25]
    exact DataW.weights_mem_each (j := j) h1 h2 m hm)
  obtain ⟨v0, e0, s0⟩ := oText t0 (hw 0 _ _ rfl rfl)
  obtain ⟨v1, e1, s1⟩ := oText t1 (hw 1 _ _ rfl rfl)
  obtain ⟨v2, l2, e2, r2, g2, b2⟩ := oLbs t2 (hw 2 _ _ rfl rfl)
  obtain ⟨v3, e3, s3⟩ := oInt Tryz.underlying3 t3
  obtain ⟨v4, e4, s4⟩ := oInt Tryz.underlying2 t4
  obtain ⟨v5, l5, e5, r5, g5, b5⟩ := oPts t5 (hw 5 _ _ rfl rfl)
  obtain ⟨v6, e6, s6⟩ := oInt Tryz.underlying2 t6
  simp only [List.cons.injEq, and_true] at e0 e1 e2 e3 e4 e5 e6
  subst e0 e1 e2 e3 e4 e5 e6
  have ev : Value.agg cs = .agg #[.string v0, .string v1, c2, .int .i64 v3, .int .i64 v4, c5, .int .i64 v6] := by
    congr 1
    apply Array.ext'
    rw [hcs]
  exact ⟨⟨v0, v1, l2, v3, v4, l5, v6⟩, _, _, ev, ⟨r2, r5⟩, ⟨⟨s0, s1⟩, g2, fun q hq => (g5 q hq).1, ⟨s3.1, s3.2, s4.1, s4.2, s6.1, s6.2⟩⟩, b2, b5, fun q hq => (g5 q hq).2⟩
end Go.Proofs.YtehgnbgbmicheaaGreatDoor
