/-
  move, with released.
-/
import Derived.Test.YtodfmnbfbndkhaaGreatDoorLeV
namespace Go.Proofs.YtodfmnbfbndkhaaGreatDoor
open Go.RowKit Go.Shelf
attribute [local go_sem] Oper.semAt_some
namespace Le
set_option maxHeartbeats 16000000 in
set_option maxRecDepth 100000 in
theorem move_released (o : Ob) (ls ps : Value) (w : World) (t b n : Nat) (D : DataW Unit) (f : Ky → Int) (H : Ld w t b n D) (R : Rep D f) (G : Gl w) (hv : ObV w ls ps o) (hz : PSz o.ps) (hp : o.p.size ≤ 140737488355328) (hs : shE o = 0 → ShOk (shR o)) (hn : n ≤ 100000000000000) :
    Calls Tryz.prog 29 #[.pointer (some ⟨t, 0, none⟩), o.val ls ps, .func (.func 33) #[] #[]] w fun e w' => ∃ D' n', e = .returned (.int .i64 (mvE false f o)) ∧ Ld w' t b n' D' ∧ Rep D' (mvF false f o) ∧ Kept (fun y => y = b) w w' ∧ n' ≤ n + (shR o).length := by
  refine (callsIn_wide (n := 8)).1 ?_
  refine callsIn_of_wp_marks Tryz.func29 rfl trivial ?_ rfl
  simp only [Tryz.ntmps29, List.size_toArray, List.length_cons, List.length_nil, Nat.reduceAdd, Nat.reduceSub, Array.replicate_succ, Array.replicate_zero, List.push_toArray, List.append_toArray, List.nil_append, List.cons_append]
  obtain ⟨la, lc, rfl, _, _⟩ := hv.l.len
  obtain ⟨pa, pc, rfl, _, _⟩ := hv.p.len
  obtain ⟨nl, hnl⟩ : ∃ n, n = o.ls.length := ⟨_, rfl⟩
  obtain ⟨np, hnp⟩ : ∃ n, n = o.ps.length := ⟨_, rfl⟩
  rw [← hnl, ← hnp] at hv
  rw [← hnl, ← hnp]
  have SA : Hid (∀ W, Below w.heap.size w W → Calls Tryz.prog 57 #[o.val (.slice la nl lc) (.slice pa np pc)] W fun e w' => Below W.heap.size W w' ∧ ∃ fv, e = .returned (.tuple #[fv, .int .i64 (shE o)]) ∧ (shE o = 0 → ∃ g1 g2 g3, fv = fnS g1 g2 g3 ∧ Cap w' g1 g2 g3 (lineP o.p) (canS o) (usesL o.ps))) := Lib.hid (fun W h => shares_any o _ _ W (G.below h) (hv.below h) hz hp)
  have ME : Hid (mvE false f o = if shE o ≠ 0 then shE o else chk false f (shR o)) := Lib.hid rfl
  obtain ⟨sE, hsE⟩ : ∃ c, c = shE o := ⟨_, rfl⟩
  have MF : Hid ((mvE false f o = 0 → mvF false f o = app false f (shR o)) ∧ (mvE false f o ≠ 0 → mvF false f o = f)) := Lib.hid ⟨fun h => by unfold mvF; rw [if_pos h], fun h => by unfold mvF; rw [if_neg h]⟩
  obtain ⟨mE, hmE⟩ : ∃ c, c = mvE false f o := ⟨_, rfl⟩
  obtain ⟨mF, hmF⟩ : ∃ c, c = mvF false f o := ⟨_, rfl⟩
  obtain ⟨SH, hSH⟩ : ∃ c, c = shR o := ⟨_, rfl⟩
  rw [← hmE, ← hsE, ← hSH] at ME
  rw [← hmE, ← hmF, ← hSH] at MF
  rw [← hsE] at SA hs
  rw [← hSH] at hs
  rw [← hmE, ← hmF, ← hSH]
  have SHD : Hid (SH = shL (lineP o.p) (canS o) (usesL o.ps)) := Lib.hid hSH
  obtain ⟨LN, hLN⟩ : ∃ l, l = lineP o.p := ⟨_, rfl⟩
  obtain ⟨SC, hSC⟩ : ∃ l, l = canS o := ⟨_, rfl⟩
  obtain ⟨UL, hUL⟩ : ∃ l, l = usesL o.ps := ⟨_, rfl⟩
  rw [← hLN, ← hSC, ← hUL] at SA SHD
  have HS := Lib.hid hs
  have HN := Lib.hid hn
  have HL := Lib.hid (And.intro H R)
  clear hs hn H R G hv hz hp hmE hmF hSH hsE hLN hSC hUL hnl hnp
  obtain ⟨op, on, ols, opr, odl, ops, over⟩ := o
  unfold Ob.val at SA ⊢
  simp only at SA ⊢
  obtain ⟨g3, hg3⟩ : ∃ g, g = w.heap.size := ⟨_, rfl⟩
  have HG3 := Lib.hid hg3
  have hg3' := hg3.symm
  clear hg3
  gi_wp2_with (first | gi_in)
  obtain ⟨X, hX⟩ : ∃ X, X = (((w.alloc (.cells #[.pointer (some ⟨t, 0, none⟩)] 26)).alloc (.cells #[.string op, .string on, .slice la nl lc, .int .i64 opr, .int .i64 odl, .slice pa np pc, .int .i64 over] 25)).alloc (.cells #[.func (.func 33) #[] #[]] 72)).alloc (.cells #[.int .i64 0] 29) := ⟨_, rfl⟩
  rw [← hX]
  have BX : Hid (Below w.heap.size w X ∧ X.heap[g3]? = some (.cells #[.pointer (some ⟨t, 0, none⟩)] 26 (0, 0)) ∧ X.heap[g3 + 1 + 1]? = some (.cells #[.func (.func 33) #[] #[]] 72 (0, 0)) ∧ X.heap[g3 + 1 + 1 + 1]? = some (.cells #[.int .i64 0] 29 (0, 0))) := Lib.hid (by
    obtain ⟨A1, hA1⟩ : ∃ A, A = w.alloc (.cells #[.pointer (some ⟨t, 0, none⟩)] 26) := ⟨_, rfl⟩
    obtain ⟨A2, hA2⟩ : ∃ A, A = A1.alloc (.cells #[.string op, .string on, .slice la nl lc, .int .i64 opr, .int .i64 odl, .slice pa np pc, .int .i64 over] 25) := ⟨_, rfl⟩
    obtain ⟨A3, hA3⟩ : ∃ A, A = A2.alloc (.cells #[.func (.func 33) #[] #[]] 72) := ⟨_, rfl⟩
    rw [← hA1, ← hA2, ← hA3] at hX
    have s1 : A1.heap.size = g3 + 1 := by rw [hA1, World.size_alloc, HG3.out]
    have s2 : A2.heap.size = g3 + 1 + 1 := by rw [hA2, World.size_alloc, s1]
    have s3 : A3.heap.size = g3 + 1 + 1 + 1 := by rw [hA3, World.size_alloc, s2]
    have b1 : Below w.heap.size w A1 := by rw [hA1]; exact (Below.refl _ _).alloc (Nat.le_refl _) _
    have b2 : Below A1.heap.size A1 A2 := by rw [hA2]; exact (Below.refl _ _).alloc (Nat.le_refl _) _
    have b3 : Below A2.heap.size A2 A3 := by rw [hA3]; exact (Below.refl _ _).alloc (Nat.le_refl _) _
    have b4 : Below A3.heap.size A3 X := by rw [hX]; exact (Below.refl _ _).alloc (Nat.le_refl _) _
    have k1 : A1.heap[g3]? = some (.cells #[.pointer (some ⟨t, 0, none⟩)] 26 (0, 0)) := by rw [hA1, HG3.out]; exact heap_alloc_new _ _
    have k3 : A3.heap[g3 + 1 + 1]? = some (.cells #[.func (.func 33) #[] #[]] 72 (0, 0)) := by rw [hA3, ← s2]; exact heap_alloc_new _ _
    have k4 : X.heap[g3 + 1 + 1 + 1]? = some (.cells #[.int .i64 0] 29 (0, 0)) := by rw [hX, ← s3]; exact heap_alloc_new _ _
    have c1 := (b2.block _ (lt_of_some k1)).trans k1
    have c2 := (b3.block _ (lt_of_some c1)).trans c1
    exact ⟨b1.trans ((b2.trans ((b3.trans (b4.mono b3.size)).mono b2.size)).mono b1.size), (b4.block _ (lt_of_some c2)).trans c2, (b4.block _ (lt_of_some k3)).trans k3, k4⟩)
  clear hX hg3'
  refine ⟨trivial, (callsIn_wide.2 (SA.out X BX.out.1)).mono ?_⟩
  rintro e w1 ⟨hb, fv, rfl, hc⟩
  obtain ⟨g4, hg4⟩ : ∃ g, g = g3 + 1 := ⟨_, rfl⟩
  obtain ⟨g5, hg5⟩ : ∃ g, g = g3 + 1 + 1 := ⟨_, rfl⟩
  obtain ⟨g6, hg6⟩ : ∃ g, g = g3 + 1 + 1 + 1 := ⟨_, rfl⟩
  rw [← hg6, ← hg5] at BX
  rw [← hg6, ← hg5, ← hg4]
  have M1 : Hid (Mv w t b n D (.func (.func 33) #[] #[]) 0 g3 g5 g6 w1.heap.size w1 ∧ Below w.heap.size w w1 ∧ w.heap.size ≤ g3 ∧ g3 < g5 ∧ g5 < g6 ∧ g6 < w1.heap.size ∧ b < w.heap.size ∧ t < w.heap.size) := Lib.hid (by
    have b1 := BX.out.1.trans (hb.mono BX.out.1.size)
    refine ⟨⟨HL.out.1.below b1, (hb.block _ (lt_of_some BX.out.2.1)).trans BX.out.2.1, (hb.block _ (lt_of_some BX.out.2.2.1)).trans BX.out.2.2.1, (hb.block _ (lt_of_some BX.out.2.2.2)).trans BX.out.2.2.2, Below.kept b1 _, Nat.le_refl _⟩, b1, by rw [HG3.out]; exact Nat.le_refl _, by omega, by omega, Nat.lt_of_lt_of_le (lt_of_some BX.out.2.2.2) hb.size, HL.out.1.m.lt, lt_of_some HL.out.1.t⟩)
  have HC := Lib.hid hc
  have BC : Hid (∀ s v W, 0 ≤ s ∧ s ≤ MX → 0 ≤ v ∧ v ≤ MX → Calls Tryz.prog 33 #[.int .i64 s, .int .i64 v] W fun e w' => e = .returned (.tuple #[.int .i64 (bec false s v).1, .int .i64 (bec false s v).2]) ∧ w' = W) := Lib.hid (fun s v W h1 h2 => released_any s v h1 h2 W)
  clear hb hc SA BX hg4 hg5 hg6 HG3
  by_cases h0 : sE = 0
  · subst h0
    obtain ⟨c1, c2, c3, rfl, hcap⟩ := HC.out rfl
    have CP := Lib.hid hcap
    have OKA : Hid (ShOk SH) := Lib.hid (HS.out rfl)
    have CLM : Hid (SH.map cl = SH) := Lib.hid (by
      have : ∀ l : Sh, (∀ e ∈ l, Okk e) → l.map cl = l := by
        intro l
        induction l with
        | nil => intro _; rfl
        | cons x r ih => intro h; rw [List.map_cons, cl_eq (h x (by simp)), ih (fun e he => h e (by simp [he]))]
      exact this SH OKA.out.ok)
    have SEQ : Hid (∀ m W, 2 ≤ m → Below w1.heap.size w1 W → SeqStopsK Fence.wide m Tryz.prog 92 #[.pointer (some ⟨c1, 0, none⟩), .pointer (some ⟨c2, 0, none⟩), .pointer (some ⟨c3, 0, none⟩)] (fun x : Ky × Int => #[(cl x).1.val, .int .i64 (cl x).2]) Kp (fun xs => xs = SH) (fun pre => pre <+: SH) SH.length W) := Lib.hid (by
      intro m W hm hb
      obtain ⟨av, n1, k1, bv, n2, k2, dv, n3, k3, x1, x2, x3, x4, x5, x6⟩ := CP.out.ex
      have q := OKA.out.ok
      rw [SHD.out] at q ⊢
      exact shr1 m hm c1 c2 c3 av bv dv n1 n2 n3 k1 k2 k3 LN SC UL W ((hb.cell (block_lt_of_cell x1)).trans x1) ((hb.cell (block_lt_of_cell x2)).trans x2) ((hb.cell (block_lt_of_cell x3)).trans x3) (x4.below hb) (x5.below hb) (x6.below hb) q)
    have ME2 : Hid (mE = chk false f SH) := Lib.hid (by rw [ME.out]; simp)
    clear hcap HC HS CP
    unfold fnS
    gi_wp2_with fail
    refine wpIn_rangeFunc_ownH (α := Ky × Int) rfl (by decide) (gf := 92) (lb := #[.pointer (some ⟨c1, 0, none⟩), .pointer (some ⟨c2, 0, none⟩), .pointer (some ⟨c3, 0, none⟩)]) rfl trivial (enters_of Tryz.func92 (by kernel_rfl) rfl)
      (SEQ.out 7 w1 (by decide) (Below.refl _ _)) (fun h k => kp_trans h k) (fun W l o o' _ ho hc _ => kp_put W l o o' ho hc) (Below.refl _ _) (fun _ => rfl)
      (fun pre W => Below w1.heap.size w1 W ∧ chk false f (pre.map cl) = 0) (fun cd pre W => cd = .ret ∧ (∃ e6, e6 ≠ 0 ∧ chk false f (pre.map cl) = e6 ∧ W.heap[g6]? = some (.cells #[.int .i64 e6] 29 (0, 0))) ∧ Ld W t b n D ∧ Kept (fun y => y = b) w W) ?hI ?hIx ⟨Below.refl _ _, rfl⟩
      (fun x a' W => ∃ Bx, w1.heap.size ≤ Bx ∧ W.heap[Bx]? = some (.cells #[.string (cl x).1.p, .int .i64 (cl x).1.k, .int .i64 (cl x).1.a, .string (cl x).1.r] 79 (0, 0)) ∧ a' = { tmps := #[.pointer (some ⟨t, 0, none⟩), .agg #[.string op, .string on, .slice la nl lc, .int .i64 opr, .int .i64 odl, .slice pa np pc, .int .i64 over], .func (.func 33) #[] #[], .pointer (some ⟨g3, 0, none⟩), .pointer (some ⟨g4, 0, none⟩), .pointer (some ⟨g5, 0, none⟩), .pointer (some ⟨g6, 0, none⟩), .func (.func 92) #[] #[.pointer (some ⟨c1, 0, none⟩), .pointer (some ⟨c2, 0, none⟩), .pointer (some ⟨c3, 0, none⟩)], .int .i64 0, .pointer (some ⟨Bx, 0, none⟩), .int .i64 (cl x).2, undef, undef, undef, undef, undef, undef, .tuple #[.func (.func 92) #[] #[.pointer (some ⟨c1, 0, none⟩), .pointer (some ⟨c2, 0, none⟩), .pointer (some ⟨c3, 0, none⟩)], .int .i64 0], .agg #[.string op, .string on, .slice la nl lc, .int .i64 opr, .int .i64 odl, .slice pa np pc, .int .i64 over], .tuple #[.func (.func 92) #[] #[.pointer (some ⟨c1, 0, none⟩), .pointer (some ⟨c2, 0, none⟩), .pointer (some ⟨c3, 0, none⟩)], .int .i64 0], .func (.func 92) #[] #[.pointer (some ⟨c1, 0, none⟩), .pointer (some ⟨c2, 0, none⟩), .pointer (some ⟨c3, 0, none⟩)], .int .i64 0, .int .i64 0, .bool false, undef, .func (.func 92) #[] #[.pointer (some ⟨c1, 0, none⟩), .pointer (some ⟨c2, 0, none⟩), .pointer (some ⟨c3, 0, none⟩)], .agg #[.string (cl x).1.p, .int .i64 (cl x).1.k, .int .i64 (cl x).1.a, .string (cl x).1.r], .int .i64 (cl x).2, undef, undef, undef, undef, undef, undef, undef, undef, undef, undef, undef, undef, undef, undef, undef, undef, undef, undef, undef, undef, undef, undef, undef, undef, undef, undef, undef, undef, undef, undef, undef, undef, undef, undef], defers := [] }) ?hAx ?assign ?body ?done ?stop
    case hI =>
      rintro pre W W' row ⟨h1, h2⟩ hg hr
      exact ⟨h1.trans ((Below.refl _ W).grown hg h1.size (fun k e => (hr k e).1)), h2⟩
    case hIx =>
      rintro cd pre W W' row ⟨h1, ⟨e6, h2, h3, h4⟩, h5, h6⟩ hg hr
      have q := M1.out
      have qs := q.2.1.size
      refine ⟨h1, ⟨e6, h2, h3, cells_same hg hr h4⟩, ⟨cells_same hg hr h5.t, own_same h5.m (hg.block b h5.m.lt (fun e => ?_))⟩, h6.trans (grown_kept hg) (fun y hy e => ?_)⟩
      · have := (hr b e.symm).1
        omega
      · have := (hr y e.symm).1
        omega
    case hAx =>
      rintro x a' _ W W' row ⟨Bx, h1, h2, h3⟩ hg hr
      exact ⟨Bx, h1, cells_same hg hr h2, h3⟩
    case assign =>
      rintro l pre x W K hi hK
      have HK := Lib.hid hK
      have HI := Lib.hid hi
      obtain ⟨⟨⟨xp, xk, xa, xr⟩, xv⟩, hy⟩ : ∃ y, y = cl x := ⟨_, rfl⟩
      rw [← hy] at HK ⊢
      unfold Ky.val
      simp only at HK ⊢
      clear hi hK hy
      gi_wp2
      have bl : Below W.heap.size W (W.alloc (.cells #[.string xp, .int .i64 xk, .int .i64 xa, .string xr] 79)) := (Below.refl _ W).alloc (Nat.le_refl _) _
      refine HK.out _ _ ((KeepsOthers.alloc _ _).from _) (kp_below bl) ⟨HI.out.1.trans (bl.mono HI.out.1.size), HI.out.2⟩ ⟨W.heap.size, HI.out.1.size, by rw [heap_alloc_new], rfl⟩
    case body =>
      rintro l pre x a' W hl ⟨r, hr⟩ ⟨h1, h2⟩ ⟨Bx, hBx, bX, rfl⟩ hlt
      have HM : Hid (Mv w t b n D (.func (.func 33) #[] #[]) 0 g3 g5 g6 w1.heap.size W) := Lib.hid (by
        have q := M1.out.1
        exact ⟨q.ld.kept (Below.kept (show Below w1.heap.size w1 W from h1) (fun _ => False)) id id, (h1.block _ (lt_of_some q.b3)).trans q.b3, (h1.block _ (lt_of_some q.b5)).trans q.b5, (h1.block _ (lt_of_some q.b6)).trans q.b6, q.kp.trans (Below.kept h1 (fun _ => False)) (fun _ _ e => e.elim), h1.size⟩)
      have HI := Lib.hid (And.intro h1 h2)
      clear h1 h2 hr hl hlt
      obtain ⟨⟨⟨xp, xk, xa, xr⟩, xv⟩, hy⟩ : ∃ y, y = cl x := ⟨_, rfl⟩
      have OKX : Hid (Okk (⟨xp, xk, xa, xr⟩, xv)) := Lib.hid (by rw [hy]; exact cl_ok x)
      have CY : Hid ((pre ++ [x]).map cl = pre.map cl ++ [(⟨xp, xk, xa, xr⟩, xv)]) := Lib.hid (by rw [List.map_append, List.map_cons, List.map_nil, ← hy])
      rw [← hy] at bX ⊢
      simp only at bX ⊢
      obtain ⟨s, hs⟩ : ∃ s, s = f ⟨xp, xk, xa, xr⟩ := ⟨_, rfl⟩
      have SR : Hid ((0 ≤ s ∧ s ≤ MX) ∧ (0 ≤ xv ∧ xv ≤ MX)) := Lib.hid ⟨by rw [hs]; exact HL.out.2.rng _, OKX.out.2⟩
      have hrun : ∀ q, (Instr.lookup 75 (.map (some b)) (.agg #[.string xp, .int .i64 xk, .int .i64 xa, .string xr]) false).run Tryz.prog (W.drewN q) = .ok (.int .i64 s) (W.drewN q) := fun q => by
        obtain ⟨v0, ps, hr0, hv0⟩ := (HM.out.ld.below (L.below_drawn W q)).m.lookup K Tryz.underlying75 (zero_sum _) (rS_mk 0) (key_mk ⟨xp, xk, xa, xr⟩ OKX.out.1)
        obtain ⟨c, rfl, hc⟩ := rS_inv _ _ hv0
        simp only [Prod.mk.injEq] at hc
        have z := hc.1
        rw [HL.out.2.look OKX.out.1] at z
        have z2 := eS_inj z
        rw [hs, z2]
        exact hr0
      obtain ⟨⟨r1, r2⟩, hbe⟩ : ∃ p, p = bec false s xv := ⟨_, rfl⟩
      have BE : Hid ((r1, r2) = bec false s xv) := Lib.hid hbe
      have HS0 := Lib.hid hs
      have CB : Hid (∀ W, Calls Tryz.prog 33 #[.int .i64 s, .int .i64 xv] W fun e w' => e = .returned (.tuple #[.int .i64 r1, .int .i64 r2]) ∧ w' = W) := Lib.hid (fun W => by have q := BC.out s xv W SR.out.1 SR.out.2; rw [← hbe] at q; exact q)
      have k5 : W.cell? ⟨g5, 0, none⟩ = some (.func (.func 33) #[] #[]) := by rw [cell_of_row _ _ _ _ _ _ HM.out.b5]; rfl
      have k3 : W.cell? ⟨g3, 0, none⟩ = some (.pointer (some ⟨t, 0, none⟩)) := by rw [cell_of_row _ _ _ _ _ _ HM.out.b3]; rfl
      have kt : W.cell? ⟨t, 0, none⟩ = some (.map (some b)) := HM.out.ld.cell
      have x0 : W.cell? ⟨Bx, 0, none⟩ = some (.string xp) := by rw [cell_of_row _ _ _ _ _ _ bX]; rfl
      have x1 : W.cell? ⟨Bx, 1, none⟩ = some (.int .i64 xk) := by rw [cell_of_row _ _ _ _ _ _ bX]; rfl
      have x2 : W.cell? ⟨Bx, 2, none⟩ = some (.int .i64 xa) := by rw [cell_of_row _ _ _ _ _ _ bX]; rfl
      have x3 : W.cell? ⟨Bx, 3, none⟩ = some (.string xr) := by rw [cell_of_row _ _ _ _ _ _ bX]; rfl
      have HX := Lib.hid bX
      have mixed : Tryz.prog.follows .mixedOrders = true := by kernel_rfl
      clear hs hbe hy bX
      gi_wp2_with fail
      refine region_round l rfl (by kernel_rfl) (by kernel_rfl) (by kernel_rfl) ?_
      repeat (gi_big_quiet_step (fail))
      refine wpQuietIn_step (by unfold Oper.askedIn; intros; exact True.intro) (fun K hK => ?_)
      go_simp
      apply Exists.intro
      refine ⟨fun _ => ?_, hK _ ?_⟩
      · exact CallsIn.quiet_of_same (callsIn_wide.2 (CB.out _))
      clear hK K
      repeat (gi_big_quiet_step (fail))
      refine wpQuietIn_nil ?_
      intro _ hw'
      obtain ⟨nq, hw''⟩ := hw'
      subst hw''

      by_cases hz : r2 = 0
      · subst hz
        have END : Hid (∀ q, KeepsFrom w1.heap.size W (W.drewN q) ∧ Kp W (W.drewN q) ∧ Below w1.heap.size w1 (W.drewN q) ∧ chk false f ((pre ++ [x]).map cl) = 0) := Lib.hid (fun q => by
          have bd := L.below_drawn W q
          refine ⟨keepsFrom_kept (Below.kept bd _), kp_below bd, HI.out.1.trans (bd.mono HI.out.1.size), ?_⟩
          rw [CY.out, chk_app, HI.out.2, if_neg (by simp), chk_one, ← HS0.out, ← BE.out])
        gi_wp2
        exact END.out _
      · have gz : (r2 != 0) = true := by rw [bne_iff_ne]; exact hz
        have k6 : ∀ q, (W.drewN q).cell? ⟨g6, 0, none⟩ = some (.int .i64 0) := fun q => by
          show W.cell? ⟨g6, 0, none⟩ = _
          rw [cell_of_row _ _ _ _ _ _ HM.out.b6]; rfl
        have f6 : ∀ q, (W.drewN q).frozen? ⟨g6, 0, none⟩ = false := fun q => by
          show W.frozen? ⟨g6, 0, none⟩ = _
          exact frozen_of_row _ _ _ _ _ HM.out.b6
        have c6 := k6 nq
        have z6 := f6 nq
        have HZ := Lib.hid hz
        have END : Hid (KeepsFrom w1.heap.size W ((W.drewN nq).setCell ⟨g6, 0, none⟩ (.int .i64 r2)) ∧ (∃ e6, e6 ≠ 0 ∧ chk false f ((pre ++ [x]).map cl) = e6 ∧ ((W.drewN nq).setCell ⟨g6, 0, none⟩ (.int .i64 r2)).heap[g6]? = some (.cells #[.int .i64 e6] 29 (0, 0))) ∧ Ld ((W.drewN nq).setCell ⟨g6, 0, none⟩ (.int .i64 r2)) t b n D ∧ Kept (fun y => y = b) w ((W.drewN nq).setCell ⟨g6, 0, none⟩ (.int .i64 r2))) := Lib.hid (by
          have bd := L.below_drawn W nq
          have hd : (W.drewN nq).heap = W.heap := rfl
          have m := M1.out
          have ks : Kept (fun y => y = g6) (W.drewN nq) ((W.drewN nq).setCell ⟨g6, 0, none⟩ (.int .i64 r2)) := kept_set (F := fun y => y = g6) _ ⟨g6, 0, none⟩ _ rfl
          have kw : Kept (fun y => y = g6) W ((W.drewN nq).setCell ⟨g6, 0, none⟩ (.int .i64 r2)) := (Below.kept bd (fun y => y = g6)).trans ks (fun _ _ e => e)
          refine ⟨keepsFrom_kept (kw.mono (fun y _ e => by omega)), ⟨r2, HZ.out, ?_, ?_⟩, ?_, ?_⟩
          · rw [CY.out, chk_app, HI.out.2, if_neg (by simp), chk_one, ← HS0.out, ← BE.out]
          · rw [heap_setCell_same _ _ _ _ _ _ (show (W.drewN nq).heap[g6]? = _ from HM.out.b6)]; rfl
          · exact HM.out.ld.kept kw (by show ¬ t = g6; omega) (by show ¬ b = g6; omega)
          · exact HM.out.kp.trans kw (fun y hy e => by omega))
        clear hz k6 f6
        gi_wp2
        exact ⟨END.out.1, rfl, END.out.2⟩
    case done =>
      rintro D1 ys W0 hD hS ⟨h1, h2⟩ hK
      have EZ : Hid (chk false f SH = 0) := Lib.hid (by rw [hS] at h2; rw [CLM.out] at h2; exact h2)
      have HE : Hid (mE = 0 ∧ mF = app false f SH) := Lib.hid (by
        have e : mE = 0 := by rw [ME2.out]; exact EZ.out
        exact ⟨e, MF.out.1 e⟩)
      have B0 : Hid (Below w1.heap.size w1 W0 ∧ w1.heap.size ≤ D1 ∧ W0.heap[D1]? = some (.deferred (some []))) := Lib.hid ⟨h1, hD, hK⟩
      have HM0 : Hid (Mv w t b n D (.func (.func 33) #[] #[]) 0 g3 g5 g6 W0.heap.size W0) := Lib.hid (by
        have q := M1.out.1
        exact ⟨q.ld.below h1, (h1.block _ (lt_of_some q.b3)).trans q.b3, (h1.block _ (lt_of_some q.b5)).trans q.b5, (h1.block _ (lt_of_some q.b6)).trans q.b6, q.kp.trans (Below.kept h1 (fun _ => False)) (fun _ _ e => e.elim), Nat.le_refl _⟩)
      clear h1 h2 hD hK hS
      gi_wp2_with fail
      refine wpIn_rangeFunc_ownH (α := Ky × Int) rfl (by decide) (gf := 92) (lb := #[.pointer (some ⟨c1, 0, none⟩), .pointer (some ⟨c2, 0, none⟩), .pointer (some ⟨c3, 0, none⟩)]) rfl trivial (enters_of Tryz.func92 (by kernel_rfl) rfl)
        (SEQ.out 7 W0 (by decide) B0.out.1) (fun h k => kp_trans h k) (fun W l o o' _ ho hc _ => kp_put W l o o' ho hc) (Below.refl _ _) (fun _ => rfl)
        (fun pre W => ∃ D' n', Mv w t b n' D' (.func (.func 33) #[] #[]) 0 g3 g5 g6 W0.heap.size W ∧ Rep D' (app false f (pre.map cl)) ∧ n' ≤ n + pre.length ∧ W.heap[D1]? = some (.deferred (some []))) (fun _ _ _ => False) ?hI2 (fun _ _ _ _ _ hs _ _ => hs) ⟨D, n, HM0.out, HL.out.2, Nat.le_add_right _ _, B0.out.2.2⟩
        (fun x a' W => ∃ Bx, W0.heap.size ≤ Bx ∧ W.heap[Bx]? = some (.cells #[.string (cl x).1.p, .int .i64 (cl x).1.k, .int .i64 (cl x).1.a, .string (cl x).1.r] 79 (0, 0)) ∧ a' = { tmps := #[.pointer (some ⟨t, 0, none⟩), .agg #[.string op, .string on, .slice la nl lc, .int .i64 opr, .int .i64 odl, .slice pa np pc, .int .i64 over], .func (.func 33) #[] #[], .pointer (some ⟨g3, 0, none⟩), .pointer (some ⟨g4, 0, none⟩), .pointer (some ⟨g5, 0, none⟩), .pointer (some ⟨g6, 0, none⟩), .func (.func 92) #[] #[.pointer (some ⟨c1, 0, none⟩), .pointer (some ⟨c2, 0, none⟩), .pointer (some ⟨c3, 0, none⟩)], .int .i64 0, undef, undef, undef, undef, .pointer (some ⟨Bx, 0, none⟩), .int .i64 (cl x).2, undef, undef, .tuple #[.func (.func 92) #[] #[.pointer (some ⟨c1, 0, none⟩), .pointer (some ⟨c2, 0, none⟩), .pointer (some ⟨c3, 0, none⟩)], .int .i64 0], .agg #[.string op, .string on, .slice la nl lc, .int .i64 opr, .int .i64 odl, .slice pa np pc, .int .i64 over], .tuple #[.func (.func 92) #[] #[.pointer (some ⟨c1, 0, none⟩), .pointer (some ⟨c2, 0, none⟩), .pointer (some ⟨c3, 0, none⟩)], .int .i64 0], .func (.func 92) #[] #[.pointer (some ⟨c1, 0, none⟩), .pointer (some ⟨c2, 0, none⟩), .pointer (some ⟨c3, 0, none⟩)], .int .i64 0, .int .i64 0, .bool false, undef, .func (.func 92) #[] #[.pointer (some ⟨c1, 0, none⟩), .pointer (some ⟨c2, 0, none⟩), .pointer (some ⟨c3, 0, none⟩)], undef, undef, undef, undef, undef, undef, undef, undef, undef, undef, undef, undef, undef, undef, undef, undef, undef, .func (.func 92) #[] #[.pointer (some ⟨c1, 0, none⟩), .pointer (some ⟨c2, 0, none⟩), .pointer (some ⟨c3, 0, none⟩)], .agg #[.string (cl x).1.p, .int .i64 (cl x).1.k, .int .i64 (cl x).1.a, .string (cl x).1.r], .int .i64 (cl x).2, undef, undef, undef, undef, undef, undef, undef, undef, undef, undef, undef, undef, undef, undef, undef, undef], defers := [] }) ?hAx2 ?assign2 ?body2 ?done2 ?stop2
      case hI2 =>
        rintro pre W W' row ⟨D', n', h1, h2, h3, h4⟩ hg hr
        have m := M1.out
        have b0 := B0.out.1.size
        refine ⟨D', n', h1.grown (B := W0.heap.size) (by have := m.2.1.size; omega) m.2.2.2.2.2.2.1 hg hr, h2, h3, (hg.block D1 (lt_of_some h4) (fun e => ?_)).trans h4⟩
        have := (hr D1 e.symm).1
        have := lt_of_some B0.out.2.2
        omega
      case hAx2 =>
        rintro x a' _ W W' row ⟨Bx, h1, h2, h3⟩ hg hr
        exact ⟨Bx, h1, cells_same hg hr h2, h3⟩
      case assign2 =>
        rintro l pre x W K hi hK
        have HK := Lib.hid hK
        have HI := Lib.hid hi
        obtain ⟨⟨⟨xp, xk, xa, xr⟩, xv⟩, hy⟩ : ∃ y, y = cl x := ⟨_, rfl⟩
        rw [← hy] at HK ⊢
        unfold Ky.val
        simp only at HK ⊢
        clear hi hK hy
        gi_wp2
        have bl : Below W.heap.size W (W.alloc (.cells #[.string xp, .int .i64 xk, .int .i64 xa, .string xr] 79)) := (Below.refl _ W).alloc (Nat.le_refl _) _
        obtain ⟨D', n', h1, h2, h3, h4⟩ := HI.out
        refine HK.out _ _ ((KeepsOthers.alloc _ _).from _) (kp_below bl) ⟨D', n', h1.below bl, h2, h3, (bl.block _ (lt_of_some h4)).trans h4⟩ ⟨W.heap.size, h1.gs, by rw [heap_alloc_new], rfl⟩
      case body2 =>
        rintro l pre x a' W hl ⟨r, hr⟩ ⟨D', n', h1, h2, h3, h4⟩ ⟨Bx, hBx, bX, rfl⟩ hlt
        have HM := Lib.hid h1
        obtain ⟨F2, hF2⟩ : ∃ F, F = app false f (pre.map cl) := ⟨_, rfl⟩
        rw [← hF2] at h2
        have HR := Lib.hid h2
        have HF := Lib.hid hF2
        have HI : Hid (n' ≤ n + pre.length ∧ W.heap[D1]? = some (.deferred (some [])) ∧ pre.length < SH.length) := Lib.hid ⟨h3, h4, hlt⟩
        clear h1 h2 h3 h4 hF2 hr hl hlt
        obtain ⟨⟨⟨xp, xk, xa, xr⟩, xv⟩, hy⟩ : ∃ y, y = cl x := ⟨_, rfl⟩
        have OKX : Hid (Okk (⟨xp, xk, xa, xr⟩, xv)) := Lib.hid (by rw [hy]; exact cl_ok x)
        have CY : Hid ((pre ++ [x]).map cl = pre.map cl ++ [(⟨xp, xk, xa, xr⟩, xv)]) := Lib.hid (by rw [List.map_append, List.map_cons, List.map_nil, ← hy])
        rw [← hy] at bX ⊢
        simp only at bX ⊢
        obtain ⟨s, hs⟩ : ∃ s, s = F2 ⟨xp, xk, xa, xr⟩ := ⟨_, rfl⟩
        have SR : Hid ((0 ≤ s ∧ s ≤ MX) ∧ (0 ≤ xv ∧ xv ≤ MX)) := Lib.hid ⟨by rw [hs]; exact HR.out.rng _, OKX.out.2⟩
        have hrun : ∀ q, (Instr.lookup 75 (.map (some b)) (.agg #[.string xp, .int .i64 xk, .int .i64 xa, .string xr]) false).run Tryz.prog (W.drewN q) = .ok (.int .i64 s) (W.drewN q) := fun q => by
          obtain ⟨v0, ps, hr0, hv0⟩ := (HM.out.ld.below (L.below_drawn W q)).m.lookup K Tryz.underlying75 (zero_sum _) (rS_mk 0) (key_mk ⟨xp, xk, xa, xr⟩ OKX.out.1)
          obtain ⟨c, rfl, hc⟩ := rS_inv _ _ hv0
          simp only [Prod.mk.injEq] at hc
          have z := hc.1
          rw [HR.out.look OKX.out.1] at z
          have z2 := eS_inj z
          rw [hs, z2]
          exact hr0
        obtain ⟨⟨r1, r2⟩, hbe⟩ : ∃ p, p = bec false s xv := ⟨_, rfl⟩
        have BE : Hid ((r1, r2) = bec false s xv) := Lib.hid hbe
        have HS0 := Lib.hid hs
        have CB : Hid (∀ W, Calls Tryz.prog 33 #[.int .i64 s, .int .i64 xv] W fun e w' => e = .returned (.tuple #[.int .i64 r1, .int .i64 r2]) ∧ w' = W) := Lib.hid (fun W => by have q := BC.out s xv W SR.out.1 SR.out.2; rw [← hbe] at q; exact q)
        have k5 : W.cell? ⟨g5, 0, none⟩ = some (.func (.func 33) #[] #[]) := by rw [cell_of_row _ _ _ _ _ _ HM.out.b5]; rfl
        have k3 : W.cell? ⟨g3, 0, none⟩ = some (.pointer (some ⟨t, 0, none⟩)) := by rw [cell_of_row _ _ _ _ _ _ HM.out.b3]; rfl
        have kt : W.cell? ⟨t, 0, none⟩ = some (.map (some b)) := HM.out.ld.cell
        have x0 : W.cell? ⟨Bx, 0, none⟩ = some (.string xp) := by rw [cell_of_row _ _ _ _ _ _ bX]; rfl
        have x1 : W.cell? ⟨Bx, 1, none⟩ = some (.int .i64 xk) := by rw [cell_of_row _ _ _ _ _ _ bX]; rfl
        have x2 : W.cell? ⟨Bx, 2, none⟩ = some (.int .i64 xa) := by rw [cell_of_row _ _ _ _ _ _ bX]; rfl
        have x3 : W.cell? ⟨Bx, 3, none⟩ = some (.string xr) := by rw [cell_of_row _ _ _ _ _ _ bX]; rfl
        have HX := Lib.hid bX
        have mixed : Tryz.prog.follows .mixedOrders = true := by kernel_rfl
        clear hs hbe hy bX
        gi_wp2_with fail
        refine region_round l rfl (by kernel_rfl) (by kernel_rfl) (by kernel_rfl) ?_
        repeat (gi_big_quiet_step (fail))
        refine wpQuietIn_step (by unfold Oper.askedIn; intros; exact True.intro) (fun K hK => ?_)
        go_simp
        apply Exists.intro
        refine ⟨fun _ => ?_, hK _ ?_⟩
        · exact CallsIn.quiet_of_same (callsIn_wide.2 (CB.out _))
        clear hK K
        repeat (gi_big_quiet_step (fail))
        refine wpQuietIn_nil ?_
        intro _ hw'
        obtain ⟨nq, hw''⟩ := hw'
        subst hw''

        have bd := L.below_drawn W nq
        have R1 : Hid (0 ≤ r1 ∧ r1 ≤ MX) := Lib.hid (by
          have e : r1 = (bec false s xv).1 := by rw [← BE.out]
          rw [e]
          exact bec_in SR.out.1 SR.out.2.1)
        have ST := Lib.hid (set_any (w := W.drewN nq) ⟨xp, xk, xa, xr⟩ r1 (HM.out.ld.below bd) OKX.out.1 (by have := HI.out; have := HN.out; have := OKA.out.len; omega))
        unfold Ky.val at ST
        simp only at ST
        have z3 : (W.drewN nq).cell? ⟨g3, 0, none⟩ = some (.pointer (some ⟨t, 0, none⟩)) := k3
        have z0 : (W.drewN nq).cell? ⟨Bx, 0, none⟩ = some (.string xp) := x0
        have z1 : (W.drewN nq).cell? ⟨Bx, 1, none⟩ = some (.int .i64 xk) := x1
        have z2 : (W.drewN nq).cell? ⟨Bx, 2, none⟩ = some (.int .i64 xa) := x2
        have z4 : (W.drewN nq).cell? ⟨Bx, 3, none⟩ = some (.string xr) := x3
        clear k3 k5 kt x0 x1 x2 x3 hrun bd
        gi_wp2_with fail
        refine ⟨trivial, (CallsIn.inRound l (callsIn_wide.2 ST.out)).mono ?_⟩
        rintro e W5 ⟨rfl, hl5, hk5⟩
        have END : Hid (KeepsFrom W0.heap.size W W5 ∧ Kp W W5 ∧ ∃ D' n', Mv w t b n' D' (.func (.func 33) #[] #[]) 0 g3 g5 g6 W0.heap.size W5 ∧ Rep D' (app false f ((pre ++ [x]).map cl)) ∧ n' ≤ n + (pre ++ [x]).length ∧ W5.heap[D1]? = some (.deferred (some []))) := Lib.hid (by
          have bd := L.below_drawn W nq
          have kw : Kept (fun y => y = b) W W5 := (Below.kept bd (fun y => y = b)).trans hk5 (fun _ _ e => e)
          have m := M1.out
          have b0 := B0.out
          obtain ⟨es, ck, hmb, _⟩ := HM.out.ld.m
          refine ⟨keepsFrom_kept (kw.mono (fun y _ e => by have := b0.1.size; omega)), kp_map hmb kw, _, n' + 1, ⟨hl5, (kw.block _ (lt_of_some HM.out.b3) (by omega)).trans HM.out.b3, (kw.block _ (lt_of_some HM.out.b5) (by omega)).trans HM.out.b5, (kw.block _ (lt_of_some HM.out.b6) (by omega)).trans HM.out.b6, HM.out.kp.trans kw (fun _ _ e => e), Nat.le_trans HM.out.gs kw.size⟩, ?_, ?_, ?_⟩
          · rw [CY.out, app_snoc, ← HF.out]
            simp only
            rw [← HS0.out, ← BE.out]
            simp only
            by_cases hz : r1 = 0
            · rw [if_pos hz, hz]; exact HR.out.del OKX.out.1
            · rw [if_neg hz]; exact HR.out.put OKX.out.1 hz R1.out
          · have := HI.out.1; rw [List.length_append]; simp; omega
          · refine (kw.block D1 (lt_of_some HI.out.2.1) (fun e => ?_)).trans HI.out.2.1
            have q := HI.out.2.1
            rw [e, hmb] at q
            simp at q)
        clear hl5 hk5 ST z0 z1 z2 z3 z4
        gi_wp2
        exact END.out
      case done2 =>
        rintro D2 ys W2 hD2 hS2 ⟨D', n', hm, hr, hn', hd1⟩ hK2
        subst hS2
        rw [CLM.out] at hr
        have k6 : W2.cell? ⟨g6, 0, none⟩ = some (.int .i64 0) := by rw [cell_of_row _ _ _ _ _ _ hm.b6]; rfl
        have f6 : W2.frozen? ⟨g6, 0, none⟩ = false := frozen_of_row _ _ _ _ _ hm.b6
        have m := M1.out
        have b0 := B0.out
        have lD1 := lt_of_some b0.2.2
        have s0 := b0.1.size
        have HV : Hid ((W2.setCell ⟨g6, 0, none⟩ (.int .i64 0)).heap[g6]? = some (.cells #[.int .i64 0] 29 (0, 0)) ∧ (W2.setCell ⟨g6, 0, none⟩ (.int .i64 0)).heap[D1]? = some (.deferred (some [])) ∧ (W2.setCell ⟨g6, 0, none⟩ (.int .i64 0)).heap[D2]? = some (.deferred (some [])) ∧ Ld (W2.setCell ⟨g6, 0, none⟩ (.int .i64 0)) t b n' D' ∧ Kept (fun y => y = b) w (W2.setCell ⟨g6, 0, none⟩ (.int .i64 0))) := Lib.hid (by
          have ks : Kept (fun y => y = g6) W2 (W2.setCell ⟨g6, 0, none⟩ (.int .i64 0)) := kept_set (F := fun y => y = g6) _ ⟨g6, 0, none⟩ _ rfl
          refine ⟨by rw [heap_setCell_same _ _ _ _ _ _ hm.b6]; rfl, (ks.block _ (lt_of_some hd1) (by omega)).trans hd1, (ks.block _ (lt_of_some hK2) (by omega)).trans hK2, hm.ld.kept ks (by show ¬ t = g6; omega) (by show ¬ b = g6; omega), hm.kp.trans ks (fun y hy e => by omega)⟩)
        have NE : Hid (g6 ≠ D2 ∧ g6 ≠ D1 ∧ D1 ≠ D2 ∧ w.heap.size ≤ D1 ∧ w.heap.size ≤ D2 ∧ t ≠ D1 ∧ t ≠ D2 ∧ b ≠ D1 ∧ b ≠ D2) := Lib.hid (by omega)
        clear hm hd1 hK2
        gi_wp2
        refine ⟨by simp, .inl ⟨_, _, rfl, run_takeDeferred HV.out.2.2.1, ?_⟩⟩
        refine ⟨by simp, .inl ⟨_, _, rfl, run_takeDeferred ((World.putObj_heap_other NE.out.2.2.1).trans HV.out.2.1), ?_⟩⟩
        refine ⟨_, results_cell0 rfl _ _ ⟨g6, 0, none⟩ _ rfl (load_err ((World.putObj_heap_other NE.out.2.1).trans ((World.putObj_heap_other NE.out.1).trans HV.out.1))), D', n', by rw [HE.out.1], ?_, by rw [HE.out.2]; exact hr, ?_, hn'⟩
        · have q := NE.out
          exact ⟨(World.putObj_heap_other (by omega)).trans ((World.putObj_heap_other (by omega)).trans HV.out.2.2.2.1.t), own_same HV.out.2.2.2.1.m ((World.putObj_heap_other (by omega)).trans (World.putObj_heap_other (by omega)))⟩
        · have q := NE.out
          exact kept_puts HV.out.2.2.2.2 (by omega) (by omega)
      case stop2 => rintro D' c' pre W _ _ h _; exact h.elim
    case stop =>
      rintro D1 cd pre W hD hS ⟨rfl, ⟨e6, h2, h3, h4⟩, h5, h6⟩ hK
      have m := M1.out
      have ne6 : g6 ≠ D1 := by omega
      have HE : Hid (mE = e6 ∧ mF = f) := Lib.hid (by
        obtain ⟨rest, hrest⟩ := hS
        have e1 : pre.map cl ++ rest.map cl = SH := by rw [← List.map_append, hrest]; exact CLM.out
        have e : mE = e6 := by
          rw [ME2.out, ← e1, chk_app, h3, if_pos h2]
        exact ⟨e, MF.out.2 (by rw [e]; exact h2)⟩)
      gi_wp2
      refine ⟨by simp, .inl ⟨_, _, rfl, run_takeDeferred hK, ?_⟩⟩
      refine ⟨_, results_cell0 rfl _ _ ⟨g6, 0, none⟩ _ rfl (load_err ((World.putObj_heap_other ne6).trans h4)), D, n, by rw [HE.out.1], ?_, by rw [HE.out.2]; exact HL.out.2, ?_, by omega⟩
      · exact ⟨(World.putObj_heap_other (by omega)).trans h5.t, own_same h5.m (World.putObj_heap_other (by omega))⟩
      · refine h6.trans (grown_kept (grownBy_putObj' W D1 _)) (fun y hy e => ?_)
        have : y = D1 := Option.some.inj e
        omega
  · have g0 : (sE != 0) = true := by rw [bne_iff_ne]; exact h0
    have E0 : Hid (mE = sE ∧ mF = f) := Lib.hid (by
      have e : mE = sE := by rw [ME.out, if_pos h0]
      exact ⟨e, MF.out.2 (by rw [e]; exact h0)⟩)
    have c6 : w1.cell? ⟨g6, 0, none⟩ = some (.int .i64 0) := by rw [cell_of_row _ _ _ _ _ _ M1.out.1.b6]; rfl
    have f6 : w1.frozen? ⟨g6, 0, none⟩ = false := frozen_of_row _ _ _ _ _ M1.out.1.b6
    clear h0
    gi_wp2
    have hset : (w1.setCell ⟨g6, 0, none⟩ (.int .i64 sE)).heap[g6]? = some (.cells #[.int .i64 sE] 29 (0, 0)) := by rw [heap_setCell_same _ _ _ _ _ _ M1.out.1.b6]; rfl
    have q := M1.out
    refine ⟨_, results_cell0 rfl _ _ ⟨g6, 0, none⟩ _ rfl (load_err hset), D, n, by rw [E0.out.1], ?_, by rw [E0.out.2]; exact HL.out.2, ?_, by omega⟩
    · exact ⟨(Below.heap_setCell _ _ _ _ (by show t ≠ g6; omega)).trans q.1.ld.t, own_same q.1.ld.m (Below.heap_setCell _ _ _ _ (by show b ≠ g6; omega))⟩
    · exact q.1.kp.trans (kept_set (F := fun y => y = g6) w1 ⟨g6, 0, none⟩ _ rfl) (fun y hy e => by omega)
end Le
end Go.Proofs.YtodfmnbfbndkhaaGreatDoor
