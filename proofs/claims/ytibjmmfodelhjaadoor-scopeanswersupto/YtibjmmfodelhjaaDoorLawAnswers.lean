/-
  THE WALK of ScopeAnswers.
-/
import Derived.Test.YtibjmmfodelhjaaDoorScRe
import Derived.Test.YtibjmmfodelhjaaDoorScRc
import Derived.Test.YtibjmmfodelhjaaDoorScN
import Derived.Test.YtibjmmfodelhjaaDoorScF
import Derived.Test.YtibjmmfodelhjaaDoorScH
import Derived.Test.YtibjmmfodelhjaaDoorScJ
import Derived.RegionTactic
import Derived.Deep.RegionLaw
import Derived.Deep.RegionHeld3
import Derived.Deep.DeepCutAuto
namespace Go.Proofs.YtibjmmfodelhjaaDoor
open Go.RowKit
open Go.Sort (grow)
theorem part_size {ps : List Pt} (h : PSz ps) : ∀ p ∈ ps, p.r.length + p.l.length ≤ 9223372036854775807 := by
  intro p hp
  have q2 : (ptEs p).length ≤ (obEs ps).length := by
    unfold obEs
    rw [List.length_cons]
    have := List.Sublist.length_le (List.sublist_flatten_of_mem (List.mem_map.2 ⟨_, hp, rfl⟩) : (ptEs p).Sublist ((ps.map ptEs).flatten))
    rw [List.flatMap_def]
    omega
  rw [pt_len] at q2
  have := h.n
  omega
theorem uses_two (ps : List Pt) : usesE ps = 0 ∨ usesL ps = [] := by
  unfold usesE usesL
  by_cases h1 : onegB ps = true
  · right; rw [if_pos h1]
  · rw [if_neg h1, if_neg h1]
    by_cases h2 : Ov (obEs ps)
    · right; rw [if_pos h2]
    · left; rw [if_neg h2]
set_option maxHeartbeats 16000000 in
set_option maxRecDepth 100000 in
theorem scopeAnswers_walk (o : Ob) (ls ps : Value) (k a k' a' : Int) (w : World) (hN : Nms w) (hv : ObV w ls ps o ∧ OSz o ∧ PSz o.ps ∧ o.ps.length ≤ 2000000 ∧ (obEs o.ps).length ≤ 2000000) (_u1 : -9223372036854775808 ≤ k ∧ k ≤ 9223372036854775807) (_u2 : -9223372036854775808 ≤ a ∧ a ≤ 9223372036854775807) (_u3 : -9223372036854775808 ≤ k' ∧ k' ≤ 9223372036854775807) (_u4 : -9223372036854775808 ≤ a' ∧ a' ≤ 9223372036854775807) :
    Calls Tryd.prog 8 #[o.val ls ps, .agg #[.int .i64 k, .int .i64 a], .agg #[.int .i64 k', .int .i64 a']] w fun e w' => e = .returned (.bool true) ∧ Below w.heap.size w w' := by
  clear _u1 _u2 _u3 _u4
  have H := Lib.hid hN
  clear hN
  have AZ : Hid (OSz o) := Lib.hid hv.2.1
  have AP : Hid (PSz o.ps ∧ o.ps.length ≤ 2000000) := Lib.hid ⟨hv.2.2.1, hv.2.2.2.1⟩
  have AV : Hid (ObV w _ _ o) := Lib.hid hv.1
  obtain ⟨ala, alc, rfl, _, _⟩ := hv.1.l.len
  obtain ⟨apa, apc, rfl, _, _⟩ := hv.1.p.len
  clear hv
  obtain ⟨ap, an, als, apr, adl, aps, aver⟩ := o
  simp only at AV AP
  unfold Ob.val
  simp only
  obtain ⟨aln, haln⟩ : ∃ n, n = als.length := ⟨_, rfl⟩
  obtain ⟨apn, hapn⟩ : ∃ n, n = aps.length := ⟨_, rfl⟩
  rw [← haln, ← hapn] at AV ⊢
  have AL : Hid (aln = als.length ∧ apn = aps.length) := Lib.hid ⟨haln, hapn⟩
  clear haln hapn
  obtain ⟨X, hX⟩ : ∃ X, X = ((w.alloc (.cells #[.string ap, .string an, .slice ala aln alc, .int .i64 apr, .int .i64 adl, .slice apa apn apc, .int .i64 aver] 25)).alloc (.cells #[.int .i64 k, .int .i64 a] 41)).alloc (.cells #[.int .i64 k', .int .i64 a'] 41) := ⟨_, rfl⟩
  have BX : Hid (Below w.heap.size w X ∧ X.heap[w.heap.size]? = some (.cells #[.string ap, .string an, .slice ala aln alc, .int .i64 apr, .int .i64 adl, .slice apa apn apc, .int .i64 aver] 25 (0, 0)) ∧ X.heap[w.heap.size + 1]? = some (.cells #[.int .i64 k, .int .i64 a] 41 (0, 0)) ∧ X.heap[w.heap.size + 2]? = some (.cells #[.int .i64 k', .int .i64 a'] 41 (0, 0)) ∧ X.heap.size = w.heap.size + 3) := Lib.hid (by
    rw [hX]
    obtain ⟨Q1, hQ1⟩ : ∃ Q, Q = w.alloc (.cells #[.string ap, .string an, .slice ala aln alc, .int .i64 apr, .int .i64 adl, .slice apa apn apc, .int .i64 aver] 25) := ⟨_, rfl⟩
    have s1 : Q1.heap.size = w.heap.size + 1 := by rw [hQ1]; simp
    have e1 : Q1.heap[w.heap.size]? = some (.cells #[.string ap, .string an, .slice ala aln alc, .int .i64 apr, .int .i64 adl, .slice apa apn apc, .int .i64 aver] 25 (0, 0)) := by rw [hQ1]; exact heap_alloc_new _ _
    have b1 : Below w.heap.size w Q1 := by rw [hQ1]; exact (below_alR w).out _
    rw [← hQ1]
    obtain ⟨Q2, hQ2⟩ : ∃ Q, Q = Q1.alloc (.cells #[.int .i64 k, .int .i64 a] 41) := ⟨_, rfl⟩
    have s2 : Q2.heap.size = w.heap.size + 2 := by rw [hQ2]; simp [s1]
    have b2 : Below Q1.heap.size Q1 Q2 := by rw [hQ2]; exact (below_alR Q1).out _
    have e2 : Q2.heap[w.heap.size + 1]? = some (.cells #[.int .i64 k, .int .i64 a] 41 (0, 0)) := by rw [hQ2, ← s1]; exact heap_alloc_new _ _
    rw [← hQ2]
    have b3 : Below Q2.heap.size Q2 (Q2.alloc (.cells #[.int .i64 k', .int .i64 a'] 41)) := (below_alR Q2).out _
    refine ⟨(b1.trans (b2.mono b1.size)).trans (b3.mono (Nat.le_trans b1.size b2.size)), ?_, ?_, ?_, by simp [s2]⟩
    · rw [b3.block _ (by omega), b2.block _ (by omega)]; exact e1
    · rw [b3.block _ (by omega)]; exact e2
    · rw [← s2]; exact heap_alloc_new _ _)
  have KC : Hid (∀ W : World, Below X.heap.size X W → (W.cell? ⟨w.heap.size, 0, none⟩ = some (.string ap) ∧ W.cell? ⟨w.heap.size, 1, none⟩ = some (.string an) ∧ W.cell? ⟨w.heap.size, 2, none⟩ = some (.slice ala aln alc) ∧ W.cell? ⟨w.heap.size, 3, none⟩ = some (.int .i64 apr) ∧ W.cell? ⟨w.heap.size, 4, none⟩ = some (.int .i64 adl) ∧ W.cell? ⟨w.heap.size, 5, none⟩ = some (.slice apa apn apc) ∧ W.cell? ⟨w.heap.size, 6, none⟩ = some (.int .i64 aver)) ∧ (W.cell? ⟨w.heap.size + 1, 0, none⟩ = some (.int .i64 k) ∧ W.cell? ⟨w.heap.size + 1, 1, none⟩ = some (.int .i64 a)) ∧ (W.cell? ⟨w.heap.size + 2, 0, none⟩ = some (.int .i64 k') ∧ W.cell? ⟨w.heap.size + 2, 1, none⟩ = some (.int .i64 a')) ∧ Below w.heap.size w W ∧ Nms W ∧ ObV W (.slice ala aln alc) (.slice apa apn apc) ⟨ap, an, als, apr, adl, aps, aver⟩) := Lib.hid fun W hb => by
    have bw := BX.out.1.trans (hb.mono BX.out.1.size)
    have ra : W.heap[w.heap.size]? = _ := (hb.block _ (by rw [BX.out.2.2.2.2]; omega)).trans BX.out.2.1
    have rb : W.heap[w.heap.size + 1]? = _ := (hb.block _ (by rw [BX.out.2.2.2.2]; omega)).trans BX.out.2.2.1
    have rc : W.heap[w.heap.size + 2]? = _ := (hb.block _ (by rw [BX.out.2.2.2.2]; omega)).trans BX.out.2.2.2.1
    exact ⟨⟨cell_of_row W _ 0 _ _ _ ra, cell_of_row W _ 1 _ _ _ ra, cell_of_row W _ 2 _ _ _ ra, cell_of_row W _ 3 _ _ _ ra, cell_of_row W _ 4 _ _ _ ra, cell_of_row W _ 5 _ _ _ ra, cell_of_row W _ 6 _ _ _ ra⟩, ⟨cell_of_row W _ 0 _ _ _ rb, cell_of_row W _ 1 _ _ _ rb⟩, ⟨cell_of_row W _ 0 _ _ _ rc, cell_of_row W _ 1 _ _ _ rc⟩, bw, H.out.below bw, AV.out.below bw⟩
  have EX := Lib.hid hX
  clear hX
  have FX := Lib.hid (fixed_any X (H.out.below BX.out.1))
  rw [EX.out] at FX
  have OWA : Hid (∀ W, Below X.heap.size X W → Calls Tryd.prog 11 #[.agg #[.string ap, .string an, .slice ala aln alc, .int .i64 apr, .int .i64 adl, .slice apa apn apc, .int .i64 aver]] W fun e w' => ∃ xa xc ya yc, e = .returned (.agg #[.string ap, .string an, .slice xa aln xc, .int .i64 apr, .int .i64 adl, .slice ya apn yc, .int .i64 aver]) ∧ (∃ rs, OwnR kPt W.heap.size w' (.slice ya apn yc) rs ∧ Nst W.heap.size w' rs aps) ∧ Below W.heap.size W w') := Lib.hid fun W hb => by
    refine (own_any ⟨ap, an, als, apr, adl, aps, aver⟩ (.slice ala aln alc) (.slice apa apn apc) W ((KC.out W hb).2.2.2.2.2) AZ.out).mono ?_
    rintro e w' ⟨xa, xc, ya, yc, he, ho, hb'⟩
    refine ⟨xa, xc, ya, yc, ?_, ?_, hb'⟩
    · rw [he]; unfold Ob.val; simp only [AL.out.1, AL.out.2]
    · have := ho.2
      simp only at this
      rw [AL.out.2]; exact this
  go_enter Tryd.func8, Tryd.ntmps8
  go_wp2_with fail
  refine FX.out.mono ?_
  rintro e w1 ⟨rfl, hb1⟩
  rw [← EX.out] at hb1
  have X1 := Lib.hid hb1
  clear hb1 FX EX
  obtain ⟨⟨zo0, zo1, zo2, zo3, zo4, zo5, zo6⟩, -, -, -, -, -⟩ := KC.out w1 X1.out
  go_wp2_with fail
  refine (OWA.out w1 X1.out).mono ?_
  rintro e w2 ⟨xa, xc, ya, yc, rfl, ⟨rs, ho, hn⟩, hb2⟩
  have X2 : Hid (Below X.heap.size X w2 ∧ Pts w2 (.slice ya apn yc) aps) := Lib.hid ⟨X1.out.trans (hb2.mono X1.out.size), hn.pts ho⟩
  clear ho hn hb2 zo0 zo1 zo2 zo3 zo4 zo5 zo6
  obtain ⟨Y, hY⟩ : ∃ Y, Y = w2.alloc (.cells #[.string ap, .string an, .slice xa aln xc, .int .i64 apr, .int .i64 adl, .slice ya apn yc, .int .i64 aver] 25) := ⟨_, rfl⟩
  have YS : Hid (Below w2.heap.size w2 Y ∧ Y.heap[w2.heap.size]? = some (.cells #[.string ap, .string an, .slice xa aln xc, .int .i64 apr, .int .i64 adl, .slice ya apn yc, .int .i64 aver] 25 (0, 0)) ∧ Y.heap.size = w2.heap.size + 1) := Lib.hid (by rw [hY]; exact ⟨(below_alR w2).out _, heap_alloc_new _ _, by simp⟩)
  have EY := Lib.hid hY
  clear hY
  have YX : Hid (Below X.heap.size X Y) := Lib.hid (X2.out.1.trans (YS.out.1.mono X2.out.1.size))
  have YC : Hid (∀ W : World, Below Y.heap.size Y W → (W.cell? ⟨w.heap.size, 0, none⟩ = some (.string ap) ∧ W.cell? ⟨w.heap.size, 1, none⟩ = some (.string an) ∧ W.cell? ⟨w.heap.size, 2, none⟩ = some (.slice ala aln alc) ∧ W.cell? ⟨w.heap.size, 3, none⟩ = some (.int .i64 apr) ∧ W.cell? ⟨w.heap.size, 4, none⟩ = some (.int .i64 adl) ∧ W.cell? ⟨w.heap.size, 5, none⟩ = some (.slice apa apn apc) ∧ W.cell? ⟨w.heap.size, 6, none⟩ = some (.int .i64 aver)) ∧ (W.cell? ⟨w.heap.size + 1, 0, none⟩ = some (.int .i64 k) ∧ W.cell? ⟨w.heap.size + 1, 1, none⟩ = some (.int .i64 a)) ∧ (W.cell? ⟨w.heap.size + 2, 0, none⟩ = some (.int .i64 k') ∧ W.cell? ⟨w.heap.size + 2, 1, none⟩ = some (.int .i64 a')) ∧ (W.cell? ⟨w2.heap.size, 0, none⟩ = some (.string ap) ∧ W.cell? ⟨w2.heap.size, 1, none⟩ = some (.string an) ∧ W.cell? ⟨w2.heap.size, 2, none⟩ = some (.slice xa aln xc) ∧ W.cell? ⟨w2.heap.size, 3, none⟩ = some (.int .i64 apr) ∧ W.cell? ⟨w2.heap.size, 4, none⟩ = some (.int .i64 adl) ∧ W.cell? ⟨w2.heap.size, 5, none⟩ = some (.slice ya apn yc) ∧ W.cell? ⟨w2.heap.size, 6, none⟩ = some (.int .i64 aver))) := Lib.hid fun W hb => by
    have bx := YX.out.trans (hb.mono YX.out.size)
    have q := KC.out W bx
    have rp : W.heap[w2.heap.size]? = _ := (hb.block _ (by rw [YS.out.2.2]; omega)).trans YS.out.2.1
    exact ⟨q.1, q.2.1, q.2.2.1, cell_of_row W _ 0 _ _ _ rp, cell_of_row W _ 1 _ _ _ rp, cell_of_row W _ 2 _ _ _ rp, cell_of_row W _ 3 _ _ _ rp, cell_of_row W _ 4 _ _ _ rp, cell_of_row W _ 5 _ _ _ rp, cell_of_row W _ 6 _ _ _ rp⟩
  have YP : Hid (∀ W : World, Below Y.heap.size Y W → Nms W ∧ ObV W (.slice ala aln alc) (.slice apa apn apc) ⟨ap, an, als, apr, adl, aps, aver⟩ ∧ Pts W (.slice ya apn yc) aps ∧ Below w.heap.size w W) := Lib.hid fun W hb => by
    have bx := YX.out.trans (hb.mono YX.out.size)
    have q := KC.out W bx
    exact ⟨q.2.2.2.2.1, q.2.2.2.2.2, (X2.out.2.below YS.out.1).below hb, q.2.2.2.1⟩
  obtain ⟨vb, hvb⟩ : ∃ b, b = validB k a := ⟨_, rfl⟩
  obtain ⟨ib, hib⟩ : ∃ b, b = inB ⟨ap, an, als, apr, adl, aps, aver⟩ k a := ⟨_, rfl⟩
  obtain ⟨wb, hwb⟩ : ∃ b, b = wiB k a k' a' := ⟨_, rfl⟩
  have V1 : Hid (∀ W, Below Y.heap.size Y W → Calls Tryd.prog 16 #[.agg #[.int .i64 k, .int .i64 a]] W fun e w' => e = .returned (.bool vb) ∧ Below W.heap.size W w') := Lib.hid fun W hb => by rw [hvb]; exact valid_any k a W (YP.out W hb).1
  have V2 : Hid (∀ W, Below Y.heap.size Y W → Calls Tryd.prog 26 #[.agg #[.int .i64 k, .int .i64 a]] W fun e w' => e = .returned (.bool vb) ∧ Below W.heap.size W w') := Lib.hid fun W hb => by rw [hvb]; exact refValid_any k a W
  have I1 : Hid (∀ W, Below Y.heap.size Y W → Calls Tryd.prog 17 #[.agg #[.string ap, .string an, .slice xa aln xc, .int .i64 apr, .int .i64 adl, .slice ya apn yc, .int .i64 aver], .agg #[.int .i64 k, .int .i64 a]] W fun e w' => e = .returned (.bool ib) ∧ Below W.heap.size W w') := Lib.hid fun W hb => by rw [hib]; exact in_any ⟨ap, an, als, apr, adl, aps, aver⟩ xa aln xc ya apn yc k a W (YP.out W hb).1 (YP.out W hb).2.2.1
  have I2 : Hid (∀ W, Below Y.heap.size Y W → Calls Tryd.prog 27 #[.agg #[.string ap, .string an, .slice ala aln alc, .int .i64 apr, .int .i64 adl, .slice apa apn apc, .int .i64 aver], .agg #[.int .i64 k, .int .i64 a]] W fun e w' => e = .returned (.bool ib) ∧ Below W.heap.size W w') := Lib.hid fun W hb => by rw [hib]; exact refIn_any ⟨ap, an, als, apr, adl, aps, aver⟩ ala aln alc apa apn apc k a W (YP.out W hb).2.1.p (part_size AP.out.1)
  have W1 : Hid (∀ W, Below Y.heap.size Y W → Calls Tryd.prog 15 #[.agg #[.int .i64 k, .int .i64 a], .agg #[.int .i64 k', .int .i64 a']] W fun e w' => e = .returned (.bool wb) ∧ Below W.heap.size W w') := Lib.hid fun W hb => by rw [hwb]; exact within_any k a k' a' W (YP.out W hb).1
  have W2 : Hid (∀ W, Below Y.heap.size Y W → Calls Tryd.prog 28 #[.agg #[.int .i64 k, .int .i64 a], .agg #[.int .i64 k', .int .i64 a']] W fun e w' => e = .returned (.bool wb) ∧ Below W.heap.size W w') := Lib.hid fun W hb => by rw [hwb]; exact refWithin_any k a k' a' W
  have O1 : Hid (∀ W, Below Y.heap.size Y W → Calls Tryd.prog 18 #[.agg #[.string ap, .string an, .slice xa aln xc, .int .i64 apr, .int .i64 adl, .slice ya apn yc, .int .i64 aver]] W fun e w' => ∃ fa fn fc, e = .returned (.slice fa fn fc) ∧ Row kSc w' (.slice fa fn fc) (canS ⟨ap, an, als, apr, adl, aps, aver⟩) ∧ Below W.heap.size W w') := Lib.hid fun W hb => (of_any ⟨ap, an, als, apr, adl, aps, aver⟩ xa aln xc ya apn yc W (YP.out W hb).1 (YP.out W hb).2.2.1).mono fun _ _ ⟨fa, fn, fc, e, q, b⟩ => ⟨fa, fn, fc, e, q.row okSc, b⟩
  have O2 : Hid (∀ W, Below Y.heap.size Y W → Calls Tryd.prog 29 #[.agg #[.string ap, .string an, .slice ala aln alc, .int .i64 apr, .int .i64 adl, .slice apa apn apc, .int .i64 aver]] W fun e w' => ∃ fa fn fc, e = .returned (.slice fa fn fc) ∧ Row kSc w' (.slice fa fn fc) (canS ⟨ap, an, als, apr, adl, aps, aver⟩) ∧ Below W.heap.size W w') := Lib.hid fun W hb => (refOf_any ⟨ap, an, als, apr, adl, aps, aver⟩ ala aln alc apa apn apc W (YP.out W hb).2.1.p (part_size AP.out.1)).mono fun _ _ ⟨fa, fn, fc, e, q, b⟩ => ⟨fa, fn, fc, e, q.row okSc, b⟩
  have SS : Hid (∀ W u v, Below Y.heap.size Y W → Row kSc W u (canS ⟨ap, an, als, apr, adl, aps, aver⟩) → Row kSc W v (canS ⟨ap, an, als, apr, adl, aps, aver⟩) → Calls Tryd.prog 20 #[u, v] W fun e w' => e = .returned (.bool true) ∧ Below W.heap.size W w') := Lib.hid fun W u v _ h1 h2 => sameScopes_yes u v _ W h1 h2
  clear hvb hib hwb
  go_wp2_with fail
  rw [← EY.out]
  clear EY
  have YD : Hid (Below Y.heap.size Y Y.drew) := Lib.hid (below_drawn Y 1)
  go_cut [48] (fun s48 wx => s48 = .bool false ∧ Below Y.heap.size Y wx)
  case first =>
    refine wp_region_held_drew (S := fun W : World => Below Y.heap.size Y W) (by kernel_rfl) YD.out (fun hHeld => ?_)
    refine wpAnyH_take (i := 0) (oi := { dst := some 18, op := Go.Op.load 41 (Go.Operand.tmp 4), type := 41, pos := "law.go:74", after := #[], guard := none }) (v := ?_) rfl (by kernel_rfl) (by kernel_rfl) (by kernel_rfl) (fun _ _ _ h => h) (Or.inl ⟨by rfl, ?hy⟩) (by assumption) ?_
    case hy => (intro W hSw; (try dsimp only at hSw); obtain ⟨⟨zo0, zo1, zo2, zo3, zo4, zo5, zo6⟩, ⟨zs0, zs1⟩, ⟨zt0, zt1⟩, ⟨zp0, zp1, zp2, zp3, zp4, zp5, zp6⟩⟩ := YC.out W hSw; go_simp; try (with_reducible rfl))
    try simp only [Act.put, List.setIfInBounds_toArray, List.set_cons_zero, List.set_cons_succ]
    refine wpAnyH_take (i := 2) (oi := { dst := some 20, op := Go.Op.load 41 (Go.Operand.tmp 4), type := 41, pos := "law.go:74", after := #[], guard := none }) (v := ?_) rfl (by kernel_rfl) (by kernel_rfl) (by kernel_rfl) (fun _ _ _ h => h) (Or.inl ⟨by rfl, ?hy⟩) (by assumption) ?_
    case hy => (intro W hSw; (try dsimp only at hSw); obtain ⟨⟨zo0, zo1, zo2, zo3, zo4, zo5, zo6⟩, ⟨zs0, zs1⟩, ⟨zt0, zt1⟩, ⟨zp0, zp1, zp2, zp3, zp4, zp5, zp6⟩⟩ := YC.out W hSw; go_simp; try (with_reducible rfl))
    try simp only [Act.put, List.setIfInBounds_toArray, List.set_cons_zero, List.set_cons_succ]
    refine wpAnyH_ready (rs := [1]) (by kernel_rfl) (by simp) ?_
    refine AllReadyH.cons (o := { dst := some 19, op := Go.Op.call { callee := Go.Callee.value (Go.Operand.func 16), args := #[Go.Operand.tmp 18], argTypes := #[41] }, type := 4, pos := "law.go:74", after := #[{ on := 0, ground := Go.Ground.data }], guard := none }) rfl (fun K hK => ?_) AllReadyH.nil
    go_simp
    refine (V1.out _ (YD.out)).mono ?_
    rintro e wq1 ⟨rfl, hb1⟩
    have HB1 : Hid (Below Y.heap.size Y wq1) := Lib.hid ((YD.out).trans (hb1.mono (YD.out).size))
    refine hK.out _ _ HB1.out (fun hHeld => ?_)
    clear hK K
    try simp only [Act.put, List.setIfInBounds_toArray, List.set_cons_zero, List.set_cons_succ]
    refine wpAnyH_ready (rs := [3]) (by kernel_rfl) (by simp) ?_
    refine AllReadyH.cons (o := { dst := some 21, op := Go.Op.call { callee := Go.Callee.value (Go.Operand.func 26), args := #[Go.Operand.tmp 20], argTypes := #[41] }, type := 4, pos := "law.go:74", after := #[{ on := 2, ground := Go.Ground.data }, { on := 1, ground := Go.Ground.chain }], guard := none }) rfl (fun K hK => ?_) AllReadyH.nil
    go_simp
    refine (V2.out _ (HB1.out)).mono ?_
    rintro e wq2 ⟨rfl, hb2⟩
    have HB2 : Hid (Below Y.heap.size Y wq2) := Lib.hid ((HB1.out).trans (hb2.mono (HB1.out).size))
    refine hK.out _ _ HB2.out (fun hHeld => ?_)
    clear hK K
    try simp only [Act.put, List.setIfInBounds_toArray, List.set_cons_zero, List.set_cons_succ]
    refine wpAnyH_take (i := 4) (oi := { dst := some 22, op := Go.Op.binOp Go.BinOp.neq 4 (Go.Operand.tmp 19) (Go.Operand.tmp 21) 4, type := 4, pos := "law.go:74", after := #[{ on := 1, ground := Go.Ground.data }, { on := 3, ground := Go.Ground.data }], guard := none }) (v := ?_) rfl (by kernel_rfl) (by kernel_rfl) (by kernel_rfl) (fun _ _ _ h => h) (Or.inl ⟨by rfl, ?hy⟩) (by assumption) ?_
    case hy => (intro W hSw; (try dsimp only at hSw); obtain ⟨⟨zo0, zo1, zo2, zo3, zo4, zo5, zo6⟩, ⟨zs0, zs1⟩, ⟨zt0, zt1⟩, ⟨zp0, zp1, zp2, zp3, zp4, zp5, zp6⟩⟩ := YC.out W hSw; go_simp; try (with_reducible rfl))
    try simp only [Act.put, List.setIfInBounds_toArray, List.set_cons_zero, List.set_cons_succ]
    refine wpAnyH_take (i := 5) (oi := { dst := some 23, op := Go.Op.move (Go.Operand.tmp 22), type := 4, pos := "law.go:74", after := #[{ on := 4, ground := Go.Ground.data }, { on := 3, ground := Go.Ground.chain }], guard := none }) (v := ?_) rfl (by kernel_rfl) (by kernel_rfl) (by kernel_rfl) (fun _ _ _ h => h) (Or.inl ⟨by rfl, ?hy⟩) (by assumption) ?_
    case hy => (intro W hSw; (try dsimp only at hSw); obtain ⟨⟨zo0, zo1, zo2, zo3, zo4, zo5, zo6⟩, ⟨zs0, zs1⟩, ⟨zt0, zt1⟩, ⟨zp0, zp1, zp2, zp3, zp4, zp5, zp6⟩⟩ := YC.out W hSw; go_simp; try (with_reducible rfl))
    try simp only [Act.put, List.setIfInBounds_toArray, List.set_cons_zero, List.set_cons_succ]
    refine wpAnyH_take (i := 6) (oi := { dst := some 24, op := Go.Op.load 25 (Go.Operand.tmp 8), type := 25, pos := "law.go:74", after := #[{ on := 5, ground := Go.Ground.guard }], guard := some (5, false) }) (v := ?_) rfl (by kernel_rfl) (by kernel_rfl) (by kernel_rfl) (fun _ _ _ h => h) (Or.inl ⟨by rfl, ?hy⟩) (by assumption) ?_
    case hy => (intro W hSw; (try dsimp only at hSw); obtain ⟨⟨zo0, zo1, zo2, zo3, zo4, zo5, zo6⟩, ⟨zs0, zs1⟩, ⟨zt0, zt1⟩, ⟨zp0, zp1, zp2, zp3, zp4, zp5, zp6⟩⟩ := YC.out W hSw; go_simp; try (with_reducible rfl))
    try simp only [Act.put, List.setIfInBounds_toArray, List.set_cons_zero, List.set_cons_succ]
    refine wpAnyH_take (i := 7) (oi := { dst := some 25, op := Go.Op.load 41 (Go.Operand.tmp 4), type := 41, pos := "law.go:74", after := #[{ on := 5, ground := Go.Ground.guard }], guard := some (5, false) }) (v := ?_) rfl (by kernel_rfl) (by kernel_rfl) (by kernel_rfl) (fun _ _ _ h => h) (Or.inl ⟨by rfl, ?hy⟩) (by assumption) ?_
    case hy => (intro W hSw; (try dsimp only at hSw); obtain ⟨⟨zo0, zo1, zo2, zo3, zo4, zo5, zo6⟩, ⟨zs0, zs1⟩, ⟨zt0, zt1⟩, ⟨zp0, zp1, zp2, zp3, zp4, zp5, zp6⟩⟩ := YC.out W hSw; go_simp; try (with_reducible rfl))
    try simp only [Act.put, List.setIfInBounds_toArray, List.set_cons_zero, List.set_cons_succ]
    refine wpAnyH_take (i := 9) (oi := { dst := some 27, op := Go.Op.load 25 (Go.Operand.tmp 3), type := 25, pos := "law.go:74", after := #[{ on := 5, ground := Go.Ground.guard }], guard := some (5, false) }) (v := ?_) rfl (by kernel_rfl) (by kernel_rfl) (by kernel_rfl) (fun _ _ _ h => h) (Or.inl ⟨by rfl, ?hy⟩) (by assumption) ?_
    case hy => (intro W hSw; (try dsimp only at hSw); obtain ⟨⟨zo0, zo1, zo2, zo3, zo4, zo5, zo6⟩, ⟨zs0, zs1⟩, ⟨zt0, zt1⟩, ⟨zp0, zp1, zp2, zp3, zp4, zp5, zp6⟩⟩ := YC.out W hSw; go_simp; try (with_reducible rfl))
    try simp only [Act.put, List.setIfInBounds_toArray, List.set_cons_zero, List.set_cons_succ]
    refine wpAnyH_take (i := 10) (oi := { dst := some 28, op := Go.Op.load 41 (Go.Operand.tmp 4), type := 41, pos := "law.go:74", after := #[{ on := 5, ground := Go.Ground.guard }], guard := some (5, false) }) (v := ?_) rfl (by kernel_rfl) (by kernel_rfl) (by kernel_rfl) (fun _ _ _ h => h) (Or.inl ⟨by rfl, ?hy⟩) (by assumption) ?_
    case hy => (intro W hSw; (try dsimp only at hSw); obtain ⟨⟨zo0, zo1, zo2, zo3, zo4, zo5, zo6⟩, ⟨zs0, zs1⟩, ⟨zt0, zt1⟩, ⟨zp0, zp1, zp2, zp3, zp4, zp5, zp6⟩⟩ := YC.out W hSw; go_simp; try (with_reducible rfl))
    try simp only [Act.put, List.setIfInBounds_toArray, List.set_cons_zero, List.set_cons_succ]
    refine wpAnyH_ready (rs := [8]) (by kernel_rfl) (by simp) ?_
    refine AllReadyH.cons (o := { dst := some 26, op := Go.Op.call { callee := Go.Callee.value (Go.Operand.func 17), args := #[Go.Operand.tmp 24, Go.Operand.tmp 25], argTypes := #[25, 41] }, type := 4, pos := "law.go:74", after := #[{ on := 6, ground := Go.Ground.data }, { on := 7, ground := Go.Ground.data }, { on := 5, ground := Go.Ground.chain }, { on := 5, ground := Go.Ground.guard }], guard := some (5, false) }) rfl (fun K hK => ?_) AllReadyH.nil
    go_simp
    refine (I1.out _ (HB2.out)).mono ?_
    rintro e wq3 ⟨rfl, hb3⟩
    have HB3 : Hid (Below Y.heap.size Y wq3) := Lib.hid ((HB2.out).trans (hb3.mono (HB2.out).size))
    refine hK.out _ _ HB3.out (fun hHeld => ?_)
    clear hK K
    try simp only [Act.put, List.setIfInBounds_toArray, List.set_cons_zero, List.set_cons_succ]
    refine wpAnyH_ready (rs := [11]) (by kernel_rfl) (by simp) ?_
    refine AllReadyH.cons (o := { dst := some 29, op := Go.Op.call { callee := Go.Callee.value (Go.Operand.func 27), args := #[Go.Operand.tmp 27, Go.Operand.tmp 28], argTypes := #[25, 41] }, type := 4, pos := "law.go:74", after := #[{ on := 9, ground := Go.Ground.data }, { on := 10, ground := Go.Ground.data }, { on := 8, ground := Go.Ground.chain }, { on := 5, ground := Go.Ground.guard }], guard := some (5, false) }) rfl (fun K hK => ?_) AllReadyH.nil
    go_simp
    refine (I2.out _ (HB3.out)).mono ?_
    rintro e wq4 ⟨rfl, hb4⟩
    have HB4 : Hid (Below Y.heap.size Y wq4) := Lib.hid ((HB3.out).trans (hb4.mono (HB3.out).size))
    refine hK.out _ _ HB4.out (fun hHeld => ?_)
    clear hK K
    try simp only [Act.put, List.setIfInBounds_toArray, List.set_cons_zero, List.set_cons_succ]
    refine wpAnyH_take (i := 12) (oi := { dst := some 30, op := Go.Op.binOp Go.BinOp.neq 4 (Go.Operand.tmp 26) (Go.Operand.tmp 29) 4, type := 4, pos := "law.go:74", after := #[{ on := 8, ground := Go.Ground.data }, { on := 11, ground := Go.Ground.data }, { on := 5, ground := Go.Ground.guard }], guard := some (5, false) }) (v := ?_) rfl (by kernel_rfl) (by kernel_rfl) (by kernel_rfl) (fun _ _ _ h => h) (Or.inl ⟨by rfl, ?hy⟩) (by assumption) ?_
    case hy => (intro W hSw; (try dsimp only at hSw); obtain ⟨⟨zo0, zo1, zo2, zo3, zo4, zo5, zo6⟩, ⟨zs0, zs1⟩, ⟨zt0, zt1⟩, ⟨zp0, zp1, zp2, zp3, zp4, zp5, zp6⟩⟩ := YC.out W hSw; go_simp; try (with_reducible rfl))
    try simp only [Act.put, List.setIfInBounds_toArray, List.set_cons_zero, List.set_cons_succ]
    refine wpAnyH_take (i := 13) (oi := { dst := some 31, op := Go.Op.pick (Go.Operand.tmp 23) (Go.Operand.const (Go.Value.bool true)) (Go.Operand.tmp 30), type := 4, pos := "law.go:74", after := #[{ on := 5, ground := Go.Ground.data }, { on := 12, ground := Go.Ground.data }], guard := none }) (v := ?_) rfl (by kernel_rfl) (by kernel_rfl) (by kernel_rfl) (fun _ _ _ h => h) (Or.inl ⟨by rfl, ?hy⟩) (by assumption) ?_
    case hy => (intro W hSw; (try dsimp only at hSw); obtain ⟨⟨zo0, zo1, zo2, zo3, zo4, zo5, zo6⟩, ⟨zs0, zs1⟩, ⟨zt0, zt1⟩, ⟨zp0, zp1, zp2, zp3, zp4, zp5, zp6⟩⟩ := YC.out W hSw; go_simp; try (with_reducible rfl))
    try simp only [Act.put, List.setIfInBounds_toArray, List.set_cons_zero, List.set_cons_succ]
    refine wpAnyH_take (i := 14) (oi := { dst := some 32, op := Go.Op.move (Go.Operand.tmp 31), type := 4, pos := "law.go:74", after := #[{ on := 13, ground := Go.Ground.data }, { on := 11, ground := Go.Ground.chain }], guard := none }) (v := ?_) rfl (by kernel_rfl) (by kernel_rfl) (by kernel_rfl) (fun _ _ _ h => h) (Or.inl ⟨by rfl, ?hy⟩) (by assumption) ?_
    case hy => (intro W hSw; (try dsimp only at hSw); obtain ⟨⟨zo0, zo1, zo2, zo3, zo4, zo5, zo6⟩, ⟨zs0, zs1⟩, ⟨zt0, zt1⟩, ⟨zp0, zp1, zp2, zp3, zp4, zp5, zp6⟩⟩ := YC.out W hSw; go_simp; try (with_reducible rfl))
    try simp only [Act.put, List.setIfInBounds_toArray, List.set_cons_zero, List.set_cons_succ]
    refine wpAnyH_take (i := 15) (oi := { dst := some 33, op := Go.Op.load 41 (Go.Operand.tmp 4), type := 41, pos := "law.go:74", after := #[{ on := 14, ground := Go.Ground.guard }], guard := some (14, false) }) (v := ?_) rfl (by kernel_rfl) (by kernel_rfl) (by kernel_rfl) (fun _ _ _ h => h) (Or.inl ⟨by rfl, ?hy⟩) (by assumption) ?_
    case hy => (intro W hSw; (try dsimp only at hSw); obtain ⟨⟨zo0, zo1, zo2, zo3, zo4, zo5, zo6⟩, ⟨zs0, zs1⟩, ⟨zt0, zt1⟩, ⟨zp0, zp1, zp2, zp3, zp4, zp5, zp6⟩⟩ := YC.out W hSw; go_simp; try (with_reducible rfl))
    try simp only [Act.put, List.setIfInBounds_toArray, List.set_cons_zero, List.set_cons_succ]
    refine wpAnyH_take (i := 16) (oi := { dst := some 34, op := Go.Op.load 41 (Go.Operand.tmp 5), type := 41, pos := "law.go:74", after := #[{ on := 14, ground := Go.Ground.guard }], guard := some (14, false) }) (v := ?_) rfl (by kernel_rfl) (by kernel_rfl) (by kernel_rfl) (fun _ _ _ h => h) (Or.inl ⟨by rfl, ?hy⟩) (by assumption) ?_
    case hy => (intro W hSw; (try dsimp only at hSw); obtain ⟨⟨zo0, zo1, zo2, zo3, zo4, zo5, zo6⟩, ⟨zs0, zs1⟩, ⟨zt0, zt1⟩, ⟨zp0, zp1, zp2, zp3, zp4, zp5, zp6⟩⟩ := YC.out W hSw; go_simp; try (with_reducible rfl))
    try simp only [Act.put, List.setIfInBounds_toArray, List.set_cons_zero, List.set_cons_succ]
    refine wpAnyH_take (i := 18) (oi := { dst := some 36, op := Go.Op.load 41 (Go.Operand.tmp 4), type := 41, pos := "law.go:74", after := #[{ on := 14, ground := Go.Ground.guard }], guard := some (14, false) }) (v := ?_) rfl (by kernel_rfl) (by kernel_rfl) (by kernel_rfl) (fun _ _ _ h => h) (Or.inl ⟨by rfl, ?hy⟩) (by assumption) ?_
    case hy => (intro W hSw; (try dsimp only at hSw); obtain ⟨⟨zo0, zo1, zo2, zo3, zo4, zo5, zo6⟩, ⟨zs0, zs1⟩, ⟨zt0, zt1⟩, ⟨zp0, zp1, zp2, zp3, zp4, zp5, zp6⟩⟩ := YC.out W hSw; go_simp; try (with_reducible rfl))
    try simp only [Act.put, List.setIfInBounds_toArray, List.set_cons_zero, List.set_cons_succ]
    refine wpAnyH_take (i := 19) (oi := { dst := some 37, op := Go.Op.load 41 (Go.Operand.tmp 5), type := 41, pos := "law.go:74", after := #[{ on := 14, ground := Go.Ground.guard }], guard := some (14, false) }) (v := ?_) rfl (by kernel_rfl) (by kernel_rfl) (by kernel_rfl) (fun _ _ _ h => h) (Or.inl ⟨by rfl, ?hy⟩) (by assumption) ?_
    case hy => (intro W hSw; (try dsimp only at hSw); obtain ⟨⟨zo0, zo1, zo2, zo3, zo4, zo5, zo6⟩, ⟨zs0, zs1⟩, ⟨zt0, zt1⟩, ⟨zp0, zp1, zp2, zp3, zp4, zp5, zp6⟩⟩ := YC.out W hSw; go_simp; try (with_reducible rfl))
    try simp only [Act.put, List.setIfInBounds_toArray, List.set_cons_zero, List.set_cons_succ]
    refine wpAnyH_ready (rs := [17]) (by kernel_rfl) (by simp) ?_
    refine AllReadyH.cons (o := { dst := some 35, op := Go.Op.call { callee := Go.Callee.value (Go.Operand.func 15), args := #[Go.Operand.tmp 33, Go.Operand.tmp 34], argTypes := #[41, 41] }, type := 4, pos := "law.go:74", after := #[{ on := 15, ground := Go.Ground.data }, { on := 16, ground := Go.Ground.data }, { on := 14, ground := Go.Ground.chain }, { on := 14, ground := Go.Ground.guard }], guard := some (14, false) }) rfl (fun K hK => ?_) AllReadyH.nil
    go_simp
    refine (W1.out _ (HB4.out)).mono ?_
    rintro e wq5 ⟨rfl, hb5⟩
    have HB5 : Hid (Below Y.heap.size Y wq5) := Lib.hid ((HB4.out).trans (hb5.mono (HB4.out).size))
    refine hK.out _ _ HB5.out (fun hHeld => ?_)
    clear hK K
    try simp only [Act.put, List.setIfInBounds_toArray, List.set_cons_zero, List.set_cons_succ]
    refine wpAnyH_ready (rs := [20]) (by kernel_rfl) (by simp) ?_
    refine AllReadyH.cons (o := { dst := some 38, op := Go.Op.call { callee := Go.Callee.value (Go.Operand.func 28), args := #[Go.Operand.tmp 36, Go.Operand.tmp 37], argTypes := #[41, 41] }, type := 4, pos := "law.go:74", after := #[{ on := 18, ground := Go.Ground.data }, { on := 19, ground := Go.Ground.data }, { on := 17, ground := Go.Ground.chain }, { on := 14, ground := Go.Ground.guard }], guard := some (14, false) }) rfl (fun K hK => ?_) AllReadyH.nil
    go_simp
    refine (W2.out _ (HB5.out)).mono ?_
    rintro e wq6 ⟨rfl, hb6⟩
    have HB6 : Hid (Below Y.heap.size Y wq6) := Lib.hid ((HB5.out).trans (hb6.mono (HB5.out).size))
    refine hK.out _ _ HB6.out (fun hHeld => ?_)
    clear hK K
    try simp only [Act.put, List.setIfInBounds_toArray, List.set_cons_zero, List.set_cons_succ]
    refine wpAnyH_take (i := 21) (oi := { dst := some 39, op := Go.Op.binOp Go.BinOp.neq 4 (Go.Operand.tmp 35) (Go.Operand.tmp 38) 4, type := 4, pos := "law.go:74", after := #[{ on := 17, ground := Go.Ground.data }, { on := 20, ground := Go.Ground.data }, { on := 14, ground := Go.Ground.guard }], guard := some (14, false) }) (v := ?_) rfl (by kernel_rfl) (by kernel_rfl) (by kernel_rfl) (fun _ _ _ h => h) (Or.inl ⟨by rfl, ?hy⟩) (by assumption) ?_
    case hy => (intro W hSw; (try dsimp only at hSw); obtain ⟨⟨zo0, zo1, zo2, zo3, zo4, zo5, zo6⟩, ⟨zs0, zs1⟩, ⟨zt0, zt1⟩, ⟨zp0, zp1, zp2, zp3, zp4, zp5, zp6⟩⟩ := YC.out W hSw; go_simp; try (with_reducible rfl))
    try simp only [Act.put, List.setIfInBounds_toArray, List.set_cons_zero, List.set_cons_succ]
    refine wpAnyH_take (i := 22) (oi := { dst := some 40, op := Go.Op.pick (Go.Operand.tmp 32) (Go.Operand.const (Go.Value.bool true)) (Go.Operand.tmp 39), type := 4, pos := "law.go:74", after := #[{ on := 14, ground := Go.Ground.data }, { on := 21, ground := Go.Ground.data }], guard := none }) (v := ?_) rfl (by kernel_rfl) (by kernel_rfl) (by kernel_rfl) (fun _ _ _ h => h) (Or.inl ⟨by rfl, ?hy⟩) (by assumption) ?_
    case hy => (intro W hSw; (try dsimp only at hSw); obtain ⟨⟨zo0, zo1, zo2, zo3, zo4, zo5, zo6⟩, ⟨zs0, zs1⟩, ⟨zt0, zt1⟩, ⟨zp0, zp1, zp2, zp3, zp4, zp5, zp6⟩⟩ := YC.out W hSw; go_simp; try (with_reducible rfl))
    try simp only [Act.put, List.setIfInBounds_toArray, List.set_cons_zero, List.set_cons_succ]
    refine wpAnyH_take (i := 23) (oi := { dst := some 41, op := Go.Op.move (Go.Operand.tmp 40), type := 4, pos := "law.go:74", after := #[{ on := 22, ground := Go.Ground.data }, { on := 20, ground := Go.Ground.chain }], guard := none }) (v := ?_) rfl (by kernel_rfl) (by kernel_rfl) (by kernel_rfl) (fun _ _ _ h => h) (Or.inl ⟨by rfl, ?hy⟩) (by assumption) ?_
    case hy => (intro W hSw; (try dsimp only at hSw); obtain ⟨⟨zo0, zo1, zo2, zo3, zo4, zo5, zo6⟩, ⟨zs0, zs1⟩, ⟨zt0, zt1⟩, ⟨zp0, zp1, zp2, zp3, zp4, zp5, zp6⟩⟩ := YC.out W hSw; go_simp; try (with_reducible rfl))
    try simp only [Act.put, List.setIfInBounds_toArray, List.set_cons_zero, List.set_cons_succ]
    refine wpAnyH_take (i := 24) (oi := { dst := some 42, op := Go.Op.load 25 (Go.Operand.tmp 8), type := 25, pos := "law.go:74", after := #[{ on := 23, ground := Go.Ground.guard }], guard := some (23, false) }) (v := ?_) rfl (by kernel_rfl) (by kernel_rfl) (by kernel_rfl) (fun _ _ _ h => h) (Or.inl ⟨by rfl, ?hy⟩) (by assumption) ?_
    case hy => (intro W hSw; (try dsimp only at hSw); obtain ⟨⟨zo0, zo1, zo2, zo3, zo4, zo5, zo6⟩, ⟨zs0, zs1⟩, ⟨zt0, zt1⟩, ⟨zp0, zp1, zp2, zp3, zp4, zp5, zp6⟩⟩ := YC.out W hSw; go_simp; try (with_reducible rfl))
    try simp only [Act.put, List.setIfInBounds_toArray, List.set_cons_zero, List.set_cons_succ]
    refine wpAnyH_take (i := 26) (oi := { dst := some 44, op := Go.Op.load 25 (Go.Operand.tmp 3), type := 25, pos := "law.go:74", after := #[{ on := 23, ground := Go.Ground.guard }], guard := some (23, false) }) (v := ?_) rfl (by kernel_rfl) (by kernel_rfl) (by kernel_rfl) (fun _ _ _ h => h) (Or.inl ⟨by rfl, ?hy⟩) (by assumption) ?_
    case hy => (intro W hSw; (try dsimp only at hSw); obtain ⟨⟨zo0, zo1, zo2, zo3, zo4, zo5, zo6⟩, ⟨zs0, zs1⟩, ⟨zt0, zt1⟩, ⟨zp0, zp1, zp2, zp3, zp4, zp5, zp6⟩⟩ := YC.out W hSw; go_simp; try (with_reducible rfl))
    try simp only [Act.put, List.setIfInBounds_toArray, List.set_cons_zero, List.set_cons_succ]
    refine wpAnyH_ready (rs := [25]) (by kernel_rfl) (by simp) ?_
    refine AllReadyH.cons (o := { dst := some 43, op := Go.Op.call { callee := Go.Callee.value (Go.Operand.func 18), args := #[Go.Operand.tmp 42], argTypes := #[25] }, type := 46, pos := "law.go:74", after := #[{ on := 24, ground := Go.Ground.data }, { on := 23, ground := Go.Ground.chain }, { on := 23, ground := Go.Ground.guard }], guard := some (23, false) }) rfl (fun K hK => ?_) AllReadyH.nil
    go_simp
    refine (O1.out _ (HB6.out)).mono ?_
    rintro e wq7 ⟨fa7, fn7, fc7, rfl, hr7, hb7⟩
    have HB7 : Hid (Below Y.heap.size Y wq7) := Lib.hid ((HB6.out).trans (hb7.mono (HB6.out).size))
    refine hK.out _ _ HB7.out (fun hHeld => ?_)
    clear hK K
    try simp only [Act.put, List.setIfInBounds_toArray, List.set_cons_zero, List.set_cons_succ]
    refine wpAnyH_ready (rs := [27]) (by kernel_rfl) (by simp) ?_
    refine AllReadyH.cons (o := { dst := some 45, op := Go.Op.call { callee := Go.Callee.value (Go.Operand.func 29), args := #[Go.Operand.tmp 44], argTypes := #[25] }, type := 46, pos := "law.go:74", after := #[{ on := 26, ground := Go.Ground.data }, { on := 25, ground := Go.Ground.chain }, { on := 23, ground := Go.Ground.guard }], guard := some (23, false) }) rfl (fun K hK => ?_) AllReadyH.nil
    go_simp
    refine (O2.out _ (HB7.out)).mono ?_
    rintro e wq8 ⟨fa8, fn8, fc8, rfl, hr8, hb8⟩
    have HB8 : Hid (Below Y.heap.size Y wq8) := Lib.hid ((HB7.out).trans (hb8.mono (HB7.out).size))
    refine hK.out _ _ HB8.out (fun hHeld => ?_)
    clear hK K
    try simp only [Act.put, List.setIfInBounds_toArray, List.set_cons_zero, List.set_cons_succ]
    refine wpAnyH_ready (rs := [28]) (by kernel_rfl) (by simp) ?_
    refine AllReadyH.cons (o := { dst := some 46, op := Go.Op.call { callee := Go.Callee.value (Go.Operand.func 20), args := #[Go.Operand.tmp 43, Go.Operand.tmp 45], argTypes := #[46, 46] }, type := 4, pos := "law.go:74", after := #[{ on := 25, ground := Go.Ground.data }, { on := 27, ground := Go.Ground.data }, { on := 27, ground := Go.Ground.chain }, { on := 23, ground := Go.Ground.guard }], guard := some (23, false) }) rfl (fun K hK => ?_) AllReadyH.nil
    go_simp
    refine (SS.out _ _ _ (HB8.out) ((hr7).below hb8) hr8).mono ?_
    rintro e wq9 ⟨rfl, hb9⟩
    have HB9 : Hid (Below Y.heap.size Y wq9) := Lib.hid ((HB8.out).trans (hb9.mono (HB8.out).size))
    refine hK.out _ _ HB9.out (fun hHeld => ?_)
    clear hK K
    try simp only [Act.put, List.setIfInBounds_toArray, List.set_cons_zero, List.set_cons_succ]
    refine wpAnyH_take (i := 29) (oi := { dst := some 47, op := Go.Op.unOp Go.UnOp.not 4 (Go.Operand.tmp 46), type := 4, pos := "law.go:74", after := #[{ on := 28, ground := Go.Ground.data }, { on := 23, ground := Go.Ground.guard }], guard := some (23, false) }) (v := ?_) rfl (by kernel_rfl) (by kernel_rfl) (by kernel_rfl) (fun _ _ _ h => h) (Or.inl ⟨by rfl, ?hy⟩) (by assumption) ?_
    case hy => (intro W hSw; (try dsimp only at hSw); obtain ⟨⟨zo0, zo1, zo2, zo3, zo4, zo5, zo6⟩, ⟨zs0, zs1⟩, ⟨zt0, zt1⟩, ⟨zp0, zp1, zp2, zp3, zp4, zp5, zp6⟩⟩ := YC.out W hSw; go_simp; try (with_reducible rfl))
    try simp only [Act.put, List.setIfInBounds_toArray, List.set_cons_zero, List.set_cons_succ]
    refine wpAnyH_take (i := 30) (oi := { dst := some 48, op := Go.Op.pick (Go.Operand.tmp 41) (Go.Operand.const (Go.Value.bool true)) (Go.Operand.tmp 47), type := 4, pos := "law.go:74", after := #[{ on := 23, ground := Go.Ground.data }, { on := 29, ground := Go.Ground.data }], guard := none }) (v := ?_) rfl (by kernel_rfl) (by kernel_rfl) (by kernel_rfl) (fun _ _ _ h => h) (Or.inl ⟨by rfl, ?hy⟩) (by assumption) ?_
    case hy => (intro W hSw; (try dsimp only at hSw); obtain ⟨⟨zo0, zo1, zo2, zo3, zo4, zo5, zo6⟩, ⟨zs0, zs1⟩, ⟨zt0, zt1⟩, ⟨zp0, zp1, zp2, zp3, zp4, zp5, zp6⟩⟩ := YC.out W hSw; go_simp; try (with_reducible rfl))
    try simp only [Act.put, List.setIfInBounds_toArray, List.set_cons_zero, List.set_cons_succ]
    refine wpAnyH_done (by kernel_rfl) ?_ _
    go_wp2_with fail
    go_meet
    exact ⟨rfl, HB9.out⟩
  case rest =>
    obtain ⟨rfl, hwc⟩ := hcut
    have XC := Lib.hid hwc
    clear hwc
    obtain ⟨eU, heU⟩ : ∃ e, e = usesE aps := ⟨_, rfl⟩
    obtain ⟨lU, hlU⟩ : ∃ l, l = usesL aps := ⟨_, rfl⟩
    have U2 : Hid (eU = 0 ∨ lU = []) := Lib.hid (by rw [heU, hlU]; exact uses_two aps)
    have US1 : Hid (∀ W, Below Y.heap.size Y W → Calls Tryd.prog 10 #[.agg #[.string ap, .string an, .slice xa aln xc, .int .i64 apr, .int .i64 adl, .slice ya apn yc, .int .i64 aver]] W fun e w' => ∃ a n c, e = .returned (.tuple #[.slice a n c, .int .i64 eU]) ∧ OwnR kAm W.heap.size w' (.slice a n c) lU ∧ Below W.heap.size W w') := Lib.hid fun W hb => by
      have hp := (YP.out W hb).2.2.1
      rw [heU, hlU]
      rw [AL.out.2] at hp ⊢
      exact uses_core _ _ _ _ _ _ _ _ _ _ aps W hp AP.out.1
    have US2 : Hid (∀ W, Below Y.heap.size Y W → Calls Tryd.prog 30 #[.agg #[.string ap, .string an, .slice ala aln alc, .int .i64 apr, .int .i64 adl, .slice apa apn apc, .int .i64 aver]] W fun e w' => ∃ a n c, e = .returned (.tuple #[.slice a n c, .int .i64 eU]) ∧ OwnR kAm W.heap.size w' (.slice a n c) lU ∧ Below W.heap.size W w') := Lib.hid fun W hb => by
      have hp : Pts W (.slice apa apn apc) aps := (YP.out W hb).2.1.p
      rw [heU, hlU]
      rw [AL.out.2] at hp ⊢
      exact refUses_core _ _ _ _ _ _ _ _ _ _ aps W hp AP.out.1
    have SP : Hid (∀ W, Below Y.heap.size Y W → Calls Tryd.prog 19 #[.agg #[.string ap, .string an, .slice xa aln xc, .int .i64 apr, .int .i64 adl, .slice ya apn yc, .int .i64 aver], .agg #[.string ap, .string an, .slice ala aln alc, .int .i64 apr, .int .i64 adl, .slice apa apn apc, .int .i64 aver]] W fun e w' => e = .returned (.bool true) ∧ Below W.heap.size W w') := Lib.hid fun W hb => by
      exact sameParts_yes _ _ _ _ _ _ _ _ _ _ _ _ _ _ _ _ _ _ _ _ _ aps W AL.out.2 (YP.out W hb).2.2.1 (YP.out W hb).2.1.p
    clear heU hlU
    obtain ⟨-, -, -, ⟨zp0, zp1, zp2, zp3, zp4, zp5, zp6⟩⟩ := YC.out wc XC.out
    go_wp2_with fail
    refine (US1.out wc XC.out).mono ?_
    rintro e w3 ⟨ua, un, uc, rfl, hu, hb3⟩
    have X3 : Hid (Below Y.heap.size Y w3 ∧ Row kAm w3 (.slice ua un uc) lU) := Lib.hid ⟨XC.out.trans (hb3.mono XC.out.size), hu.row okAm⟩
    clear hu hb3 zp0 zp1 zp2 zp3 zp4 zp5 zp6
    obtain ⟨⟨zo0, zo1, zo2, zo3, zo4, zo5, zo6⟩, -, -, -⟩ := YC.out w3 X3.out.1
    go_wp2_with fail
    refine (US2.out w3 X3.out.1).mono ?_
    rintro e w4 ⟨va, vn, vc, rfl, hu, hb4⟩
    have X4 : Hid (Below Y.heap.size Y w4 ∧ Row kAm w4 (.slice ua un uc) lU ∧ Row kAm w4 (.slice va vn vc) lU) := Lib.hid ⟨X3.out.1.trans (hb4.mono X3.out.1.size), X3.out.2.below hb4, hu.row okAm⟩
    have SA := Lib.hid (sameAmounts_yes _ _ lU w4 X4.out.2.1 X4.out.2.2)
    have UL : Hid (lU = [] → un = 0) := Lib.hid (fun q => by obtain ⟨_, _, e, _⟩ := X4.out.2.1.len; simp only [Value.slice.injEq] at e; rw [e.2.1, q]; rfl)
    clear hu hb4 zo0 zo1 zo2 zo3 zo4 zo5 zo6
    have gj : (eU == eU) = true := by simp
    go_wp2_with fail
    refine SA.out.mono ?_
    rintro e w5 ⟨rfl, hb5⟩
    have X5 : Hid (Below Y.heap.size Y w5) := Lib.hid (X4.out.1.trans (hb5.mono X4.out.1.size))
    clear hb5 gj
    obtain ⟨⟨zo0, zo1, zo2, zo3, zo4, zo5, zo6⟩, -, -, ⟨zp0, zp1, zp2, zp3, zp4, zp5, zp6⟩⟩ := YC.out w5 X5.out
    by_cases he : eU = 0
    · have g0 : (eU == 0) = true := by rw [he]; rfl
      clear he
      go_wp2_with fail
      refine (SP.out w5 X5.out).mono ?_
      rintro e w6 ⟨rfl, hb6⟩
      have X6 : Hid (Below w.heap.size w w6) := Lib.hid (YP.out w6 (X5.out.trans (hb6.mono X5.out.size))).2.2.2
      clear hb6
      go_wp2_with fail
      go_ret
      exact ⟨rfl, X6.out⟩
    · have g0 : (eU == 0) = false := by rw [beq_eq_false_iff_ne]; exact he
      obtain rfl : un = 0 := UL.out (U2.out.resolve_left he)
      clear he
      go_wp2_with fail
      refine (SP.out w5 X5.out).mono ?_
      rintro e w6 ⟨rfl, hb6⟩
      have X6 : Hid (Below w.heap.size w w6) := Lib.hid (YP.out w6 (X5.out.trans (hb6.mono X5.out.size))).2.2.2
      clear hb6
      go_wp2_with fail
      go_ret
      exact ⟨rfl, X6.out⟩
end Go.Proofs.YtibjmmfodelhjaaDoor
