/-
  WHAT THE SECOND FORM'S BOUND GIVES: objects.
-/
import Derived.Test.YtibjmmfodelhjaaDoorOpenB
import Derived.Test.YtibjmmfodelhjaaDoorUpto
import Derived.Test.YtibjmmfodelhjaaDoorScX
import Derived.Test.YtibjmmfodelhjaaDoorScN
namespace Go.Proofs.YtibjmmfodelhjaaDoor
open Go.ChangeShapes Go.WideShapes Go.ChangeAt Go.RowKit Go.Deep
theorem uRow {α : Type} (K : Kd α) (ok : K.Ok) {H : Type} {enc : TypeId × Value → H} {W : World} {fuel : Nat} {a : Option Addr} {n c : Nat} {x : DataW H × List MemPlace} (h : DataW.trod enc Tryd.prog W 0 (fun _ => true) true fuel K.s [.slice a n c] = some x) : n ≤ Rows.uptoBulk x.1 := by
  rcases open_slice ok.und h with ⟨hcs, _⟩ | ⟨y, len0, cap0, m, k, D, Pl, hcs, _, hl, hm, hmm, hx, hrow⟩
  · simp only [List.cons.injEq, Value.slice.injEq, and_true] at hcs
    omega
  · simp only [List.cons.injEq, Value.slice.injEq, and_true] at hcs
    obtain ⟨_, rfl, _⟩ := hcs
    have hd := congrArg Prod.fst hx
    simp only at hd
    rw [hd]
    simp only [Rows.uptoBulk]
    have := bulk_len (H := H) ((List.range n).map D)
    simp only [List.length_map, List.length_range] at this
    omega
theorem uPart {H : Type} {d : DataW H} {ds : List (DataW H)} {n : Nat} (h : n ≤ Rows.uptoBulk d) (hm : d ∈ ds) : n ≤ Rows.uptoBulk (.agg ds) := by
  have := bulk_mem hm
  simp only [Rows.uptoBulk]
  omega
set_option maxRecDepth 100000 in
/-- A part: its two lists. -/
theorem uPt {H : Type} {enc : TypeId × Value → H} {W : World} {fuel : Nat} {y : Pr} {x : DataW H × List MemPlace} (h : DataW.trod enc Tryd.prog W 0 (fun _ => true) true fuel 33 (kPt.c y) = some x) : y.r.n + y.l.n ≤ Rows.uptoBulk x.1 := by
  obtain ⟨xs, n, _, hx, hl, hlen, hfl⟩ := DataW.trod_struct Tryd.underlying33 h
  obtain ⟨y0, y1, y2, rfl⟩ := oL3 hlen
  have t1 := hfl 1 _ rfl
  have t2 := hfl 2 _ rfl
  change DataW.trod enc Tryd.prog W 0 _ true n 27 (List.take (Tryd.prog.cellsOf 27) [.slice y.r.a y.r.n y.r.c, .slice y.l.a y.l.n y.l.c]) = some y1 at t1
  rw [show Tryd.prog.cellsOf 27 = 1 by kernel_rfl] at t1
  change DataW.trod enc Tryd.prog W 0 _ true n 27 (List.take (Tryd.prog.cellsOf 27) [.slice y.l.a y.l.n y.l.c]) = some y2 at t2
  rw [show Tryd.prog.cellsOf 27 = 1 by kernel_rfl] at t2
  simp only [List.take] at t1 t2
  have b1 := uRow kAm okAm t1
  have b2 := uRow kAm okAm t2
  have hd := congrArg Prod.fst hx
  simp only [List.map_cons, List.map_nil] at hd
  rw [hd]
  simp only [Rows.uptoBulk, Rows.uptoBulkAll]
  omega
theorem bulk_sum {H : Type} : ∀ (ps : List Pt) (D : Nat → DataW H), (∀ i, i < ps.length → (ps.getD i ⟨⟨#[]⟩, [], []⟩).r.length + (ps.getD i ⟨⟨#[]⟩, [], []⟩).l.length ≤ Rows.uptoBulk (D i)) → (ps.flatMap ptEs).length ≤ Rows.uptoBulkAll ((List.range ps.length).map D)
  | [], D, _ => by simp
  | p :: ps, D, h => by
    have h0 := h 0 (by simp)
    have ih := bulk_sum ps (fun i => D (i + 1)) (fun i hi => by
      have := h (i + 1) (by simpa using hi)
      rw [List.getD_cons_succ] at this
      exact this)
    rw [List.getD_cons_zero] at h0
    rw [List.flatMap_cons, List.length_append, List.length_cons, List.range_succ_eq_map, List.map_cons, List.map_map]
    simp only [Rows.uptoBulkAll]
    have e : (ptEs p).length = p.r.length + p.l.length := by simp [ptEs, pre]
    have e2 : ((fun i => D (i + 1)) : Nat → DataW H) = D ∘ Nat.succ := rfl
    rw [e2] at ih
    omega
theorem l3_of {cs : List Value} (h : cs.length = 3) {a b c : Value} (h0 : cs[0]? = some a) (h1 : cs[1]? = some b) (h2 : cs[2]? = some c) : cs = [a, b, c] := by
  match cs, h with
  | [x, y, z], _ => simp_all
set_option maxRecDepth 100000 in
/-- A list of parts: all lists together. -/
theorem uPts {H : Type} {enc : TypeId × Value → H} {W : World} {fuel : Nat} {a : Option Addr} {n c : Nat} {ps : List Pt} {x : DataW H × List MemPlace} (hP : Pts W (.slice a n c) ps) (h : DataW.trod enc Tryd.prog W 0 (fun _ => true) true fuel 23 [.slice a n c] = some x) : (ps.flatMap ptEs).length ≤ Rows.uptoBulk x.1 ∧ ps.length ≤ Rows.uptoBulk x.1 := by
  have hn : n = ps.length := by obtain ⟨_, _, e, _⟩ := hP.len; simp only [Value.slice.injEq] at e; exact e.2.1
  have hlen : ps.length ≤ Rows.uptoBulk x.1 := by rw [← hn]; exact uRow kPt okPt h
  refine ⟨?_, hlen⟩
  obtain ⟨rs, hr, hl, hel⟩ := hP
  rcases open_slice okPt.und h with ⟨hcs, _⟩ | ⟨y, len0, cap0, m, k, D, Pl, hcs, _, hl0, hm, hmm, hx, hrow⟩
  · simp only [List.cons.injEq, Value.slice.injEq, and_true] at hcs
    have : ps = [] := List.length_eq_zero_iff.1 (by omega)
    rw [this]; simp
  · simp only [List.cons.injEq, Value.slice.injEq, and_true] at hcs
    obtain ⟨rfl, rfl, rfl⟩ := hcs
    simp only [if_true] at hmm
    have hd := congrArg Prod.fst hx
    simp only at hd
    rw [hd]
    simp only [Rows.uptoBulk]
    have key := bulk_sum ps D (fun i hi => by
      obtain ⟨cs', hc', ht⟩ := hrow i (by omega)
      obtain ⟨b, off, e, hcell⟩ := hr.at i (by omega)
      simp only [Option.some.injEq] at e
      subst e
      have hc3 : Tryd.prog.cellsOf kPt.t = 3 := by kernel_rfl
      have hc2 := hc'
      rw [hc3] at hc2
      obtain ⟨_, q2, q3⟩ := World.cells?_some hc2
      have q : ∀ j, j < 3 → ∀ v, (kPt.c (rs.getD i kPt.z))[j]? = some v → cs'[j]? = some v := fun j hj v hv => by
        rw [← q3 j hj, add_plain, add_plain]
        exact hcell j v hv
      have ecs : cs' = kPt.c (rs.getD i kPt.z) := l3_of (by omega) (q 0 (by omega) _ rfl) (q 1 (by omega) _ rfl) (q 2 (by omega) _ rfl)
      rw [ecs] at ht
      have u := uPt ht
      obtain ⟨_, _, e1, _⟩ := (hel i hi).2.1.len
      obtain ⟨_, _, e2, _⟩ := (hel i hi).2.2.len
      simp only [Sl.v, Value.slice.injEq] at e1 e2
      rw [← e1.2.1, ← e2.2.1]
      exact u)
    rw [← hn] at key
    omega
set_option maxRecDepth 100000 in
theorem object_small {H : Type} {enc : TypeId × Value → H} {W : World} {d : DataW H} {p : List MemPlace} {ds : List (DataW H)} {o : Ob} {ls ps : Value}
    (hk : Rows.uptoSmall H ds = true) (hm : d ∈ ds) (h : DataW.Trod enc Tryd.prog W 0 (fun _ => true) true 25 (o.val ls ps) d p) (b : ObV W ls ps o ∧ o.Fit ∧ o.ls.length * 32 ≤ 140737488355328 ∧ o.ps.length * 64 ≤ 140737488355328 ∧ ∀ y ∈ o.ps, y.r.length * 24 ≤ 140737488355328 ∧ y.l.length * 24 ≤ 140737488355328) : ObV W ls ps o ∧ OSz o ∧ PSz o.ps ∧ o.ps.length ≤ 2000000 := by
  have hB : Rows.uptoBulk d ≤ 1048576 := upto_mem hk hm
  obtain ⟨pa, pc, hu, _, _⟩ := b.1.p.len
  subst hu
  obtain ⟨fuel, hf⟩ := h
  have hf2 : DataW.trod enc Tryd.prog W 0 (fun _ => true) true fuel 25 [.string o.p, .string o.n, ls, .int .i64 o.pr, .int .i64 o.dl, .slice pa o.ps.length pc, .int .i64 o.ver] = some (d, p) := hf
  obtain ⟨xs, n, _, hx, hl, hlen, hfl⟩ := DataW.trod_struct Tryd.underlying25 hf2
  obtain ⟨y0, y1, y2, y3, y4, y5, y6, rfl⟩ := oL7 hlen
  have t5 := hfl 5 _ rfl
  change DataW.trod enc Tryd.prog W 0 _ true n 23 (List.take (Tryd.prog.cellsOf 23) [.slice pa o.ps.length pc, .int .i64 o.ver]) = some y5 at t5
  rw [show Tryd.prog.cellsOf 23 = 1 by kernel_rfl] at t5
  simp only [List.take] at t5
  have u := uPts b.1.p t5
  have hd := congrArg Prod.fst hx
  simp only [List.map_cons, List.map_nil] at hd
  rw [hd] at hB
  have b1 := uPart u.1 (ds := [y0.1, y1.1, y2.1, y3.1, y4.1, y5.1, y6.1]) (by simp)
  have b2 := uPart u.2 (ds := [y0.1, y1.1, y2.1, y3.1, y4.1, y5.1, y6.1]) (by simp)
  refine ⟨b.1, ⟨b.2.2.1, b.2.2.2.1, b.2.2.2.2⟩, ⟨?_, fun q hq => (b.2.1.p q hq).2⟩, by omega⟩
  unfold obEs
  rw [List.length_cons]
  omega
set_option maxRecDepth 100000 in
theorem object_small2 {H : Type} {enc : TypeId × Value → H} {W : World} {d : DataW H} {p : List MemPlace} {ds : List (DataW H)} {o : Ob} {ls ps : Value}
    (hk : Rows.uptoSmall H ds = true) (hm : d ∈ ds) (h : DataW.Trod enc Tryd.prog W 0 (fun _ => true) true 25 (o.val ls ps) d p) (b : ObV W ls ps o ∧ o.Fit ∧ o.ls.length * 32 ≤ 140737488355328 ∧ o.ps.length * 64 ≤ 140737488355328 ∧ ∀ y ∈ o.ps, y.r.length * 24 ≤ 140737488355328 ∧ y.l.length * 24 ≤ 140737488355328) : ObV W ls ps o ∧ OSz o ∧ PSz o.ps ∧ o.ps.length ≤ 2000000 ∧ (obEs o.ps).length ≤ 2000000 := by
  have hB : Rows.uptoBulk d ≤ 1048576 := upto_mem hk hm
  obtain ⟨pa, pc, hu, _, _⟩ := b.1.p.len
  subst hu
  obtain ⟨fuel, hf⟩ := h
  have hf2 : DataW.trod enc Tryd.prog W 0 (fun _ => true) true fuel 25 [.string o.p, .string o.n, ls, .int .i64 o.pr, .int .i64 o.dl, .slice pa o.ps.length pc, .int .i64 o.ver] = some (d, p) := hf
  obtain ⟨xs, n, _, hx, hl, hlen, hfl⟩ := DataW.trod_struct Tryd.underlying25 hf2
  obtain ⟨y0, y1, y2, y3, y4, y5, y6, rfl⟩ := oL7 hlen
  have t5 := hfl 5 _ rfl
  change DataW.trod enc Tryd.prog W 0 _ true n 23 (List.take (Tryd.prog.cellsOf 23) [.slice pa o.ps.length pc, .int .i64 o.ver]) = some y5 at t5
  rw [show Tryd.prog.cellsOf 23 = 1 by kernel_rfl] at t5
  simp only [List.take] at t5
  have u := uPts b.1.p t5
  have hd := congrArg Prod.fst hx
  simp only [List.map_cons, List.map_nil] at hd
  rw [hd] at hB
  have b1 := uPart u.1 (ds := [y0.1, y1.1, y2.1, y3.1, y4.1, y5.1, y6.1]) (by simp)
  have b2 := uPart u.2 (ds := [y0.1, y1.1, y2.1, y3.1, y4.1, y5.1, y6.1]) (by simp)
  refine ⟨b.1, ⟨b.2.2.1, b.2.2.2.1, b.2.2.2.2⟩, ⟨?_, fun q hq => (b.2.1.p q hq).2⟩, by omega, ?_⟩
  all_goals
    unfold obEs
    rw [List.length_cons]
    omega
end Go.Proofs.YtibjmmfodelhjaaDoor
