/-
  Reach, of every question. (tools/gajr.py writes it.)
-/
import Derived.Test.YthdofbjijpghfaaGreatDoorAjF
import Derived.Test.YthdofbjijpghfaaGreatDoorAjD
import Derived.Test.YthdofbjijpghfaaGreatDoorAjE
import Derived.Test.YthdofbjijpghfaaGreatDoorAcQ
namespace Go.Proofs.YthdofbjijpghfaaGreatDoor
open Go.RowKit Go.Shelf
attribute [local go_sem] Oper.semAt_some
namespace Ac
theorem hiF_sub : ∀ (qs T : List Pt), (qs.foldl hiS T).Sublist (T ++ qs)
  | [], T => by simp
  | q :: qs, T => by
    have h := hiF_sub qs (hiS T q)
    have h2 : (hiS T q).Sublist (T ++ [q]) := by
      unfold hiS
      split
      · exact List.Sublist.refl _
      · exact List.sublist_append_left _ _
    have e : T ++ q :: qs = (T ++ [q]) ++ qs := by simp
    rw [List.foldl_cons, e]
    exact h.trans (h2.append_right qs)
theorem hi_ris {ps : List Pt} (h : RisP ps) : RisP (hiF ps) := List.Pairwise.sublist (by have := hiF_sub ps []; simpa [hiF] using this) h
theorem rc_of {D : DataW Unit} {u : ByteArray} {v : Int} {ys : List Bd} {ps S : List Pt} (hS : ∀ x, x ∈ ys ↔ InD D x ∧ isB x.s x.v u v = true) (hp : ps.map (·.1) = ys.map (·.p)) (hq : S.Perm ps) (hr : RisP S) : Rc D u v (hiF S) := by
  have h := hi_rise hr
  refine ⟨fun t ht => ?_, fun x hx hb => ?_, h.d.imp fun {x y} q => ⟨?_, ?_⟩, hi_ris hr⟩
  · have h1 : t.1 ∈ ys.map (·.p) := by rw [← hp]; exact List.mem_map.2 ⟨t, hq.mem_iff.1 (h.m t ht), rfl⟩
    obtain ⟨x, hx, e⟩ := List.mem_map.1 h1
    exact ⟨x, ((hS x).1 hx).1, ((hS x).1 hx).2, e⟩
  · have h1 : x.p ∈ ps.map (·.1) := by rw [hp]; exact List.mem_map.2 ⟨x, (hS x).2 ⟨hx, hb⟩, rfl⟩
    obtain ⟨p, hp1, e⟩ := List.mem_map.1 h1
    obtain ⟨t, ht, hk⟩ := h.a p (hq.mem_iff.2 hp1)
    exact ⟨t, ht, by rw [← e]; exact (under_pre _ _).2 hk⟩
  · cases e : L.underB x.1 y.1 with
    | false => rfl
    | true => exact absurd ((under_pre _ _).1 e) q.2
  · cases e : L.underB y.1 x.1 with
    | false => rfl
    | true => exact absurd ((under_pre _ _).1 e) q.1
set_option maxHeartbeats 8000000 in
set_option maxRecDepth 100000 in
theorem reach_any (u : ByteArray) (v : Int) (w : World) (t b nn : Nat) (D : DataW Unit) (H : Ta w t b nn D) (hn : nn ≤ 1000000) (hv : Vl D) :
    Calls Tryz.prog 21 #[.pointer (some ⟨t, 0, none⟩), .string u, .int .i64 v] w fun e w' => ∃ vv T, e = .returned vv ∧ OwnR kPt w.heap.size w' vv T ∧ RcT D u v T ∧ Below w.heap.size w w' := by
  have SZ := Lib.hid (Nat.le_trans H.tb.m.size_le hn)
  have HH := Lib.hid H
  have VV := Lib.hid hv
  clear H hn hv
  refine (callsIn_wide (n := 8)).1 ?_
  refine callsIn_of_wp_marks Tryz.func21 rfl trivial ?_ rfl
  simp only [Tryz.ntmps21, List.size_toArray, List.length_cons, List.length_nil, Nat.reduceAdd, Nat.reduceSub, Array.replicate_succ, Array.replicate_zero, List.push_toArray, List.append_toArray, List.nil_append, List.cons_append]
  by_cases hs : u = rootT
  · subst hs
    have ge : (rootT.toList == [114, 111, 111, 116]) = true := by rw [ByteArray.toList_eq]; rfl
    cases hvb : vbB v with
    | true =>
      have IV := Lib.hid (isVerb_any v w)
      rw [hvb] at IV
      gi_wp2_with fail
      refine ⟨trivial, (callsIn_wide.2 IV.out).mono ?_⟩
      rintro e w1 ⟨rfl, hw1⟩
      subst hw1
      gi_wp2_with fail
      show LeavesInM Fence.wide 8 Tryz.prog Tryz.f21 _ _ [] .returning _
      refine ⟨_, results_tmp rfl _ _ _, _, [Pt.z], rfl, row_built w1 [Pt.z] okPt (by rfl) rfl (by decide), Or.inl ⟨rfl, hvb, rfl⟩, (Below.refl _ _).alloc (Nat.le_refl _) _⟩
    | false =>
      have IV := Lib.hid (isVerb_any v w)
      rw [hvb] at IV
      have NB : Hid (NoR rootT v) := Lib.hid (fun h => by rw [hvb] at h; exact absurd h.2 (by decide))
      clear hvb
      gi_wp2_with fail
      refine ⟨trivial, (callsIn_wide.2 IV.out).mono ?_⟩
      rintro e w1 ⟨rfl, hw1⟩
      subst hw1
      clear IV
      gi_wp2_with fail
      obtain ⟨Y3, hY3⟩ : ∃ Y, Y = w1.alloc (.cells #[.slice none 0 0] 49) := ⟨_, rfl⟩
      obtain ⟨m, hm⟩ : ∃ m, m = w1.heap.size := ⟨_, rfl⟩
      rw [← hY3, ← hm]
      have BY : Hid (Below w1.heap.size w1 Y3 ∧ Y3.heap.size = m + 1 ∧ Y3.heap[m]? = some (.cells #[.slice none 0 0] 49 (0, 0)) ∧ m = w1.heap.size) := Lib.hid (by
        rw [hY3, hm]
        exact ⟨(Below.refl _ _).alloc (Nat.le_refl _) _, by simp, heap_alloc_new _ _, rfl⟩)
      clear hY3 hm
      refine ⟨trivial, (callsIn_wide.2 (giving_any t rootT v Y3)).mono ?_⟩
      rintro e w2 ⟨rfl, rfl⟩
      unfold gF
      obtain ⟨cy, hcy⟩ : ∃ cy, cy = Y3.heap.size := ⟨_, rfl⟩
      obtain ⟨G, hG⟩ : ∃ G, G = gW Y3 t rootT v := ⟨_, rfl⟩
      rw [← hG, ← hcy]
      have GG : Hid (Below Y3.heap.size Y3 G ∧ G.heap.size = cy + 3 ∧ cy = m + 1 ∧ (G.cell? ⟨cy, 0, none⟩ = some (.pointer (some ⟨t, 0, none⟩)) ∧ G.cell? ⟨cy + 1, 0, none⟩ = some (.string rootT) ∧ G.cell? ⟨cy + 1 + 1, 0, none⟩ = some (.int .i64 v))) := Lib.hid (by
        rw [hG, hcy]
        exact ⟨gW_below _ _ _ _, gW_size _ _ _ _, BY.out.2.1, gW_cells _ _ _ _⟩)
      clear hG hcy
      have BG : Hid (Below w1.heap.size w1 G ∧ Tb G t b nn D ∧ m = w1.heap.size ∧ t < w1.heap.size ∧ b < w1.heap.size) := Lib.hid (by
        have b1 : Below w1.heap.size w1 G := BY.out.1.trans (GG.out.1.mono BY.out.1.size)
        exact ⟨b1, HH.out.tb.below b1, BY.out.2.2.2, lt_of_some HH.out.tb.t, HH.out.tb.m.lt⟩)
      have I0 : Hid (([] : List Bd).length ≤ Maps.size D ∧ ∃ a c, Ry w1 m G.heap.size a c (([] : List Bd).map (·.p)) G) := Lib.hid (by
        refine ⟨Nat.zero_le _, none, 0, (GG.out.1.block _ (lt_of_some BY.out.2.2.1)).trans BY.out.2.2.1, OwnR.nil _ _ _, BG.out.1, Nat.le_refl _, ?_⟩
        have q1 := BG.out.2.2.1
        have q2 := GG.out.2.1
        have q3 := GG.out.2.2.1
        omega)
      gi_wp2_with fail
      refine wpIn_rangeFunc_ownH (α := Bd) rfl (by decide) (gf := 56) (lb := #[.pointer (some ⟨cy, 0, none⟩), .pointer (some ⟨cy + 1, 0, none⟩), .pointer (some ⟨cy + 1 + 1, 0, none⟩)]) rfl trivial (enters_of Tryz.func56 (by kernel_rfl) rfl)
        (giv1 7 (by decide) t b nn cy (cy + 1) (cy + 1 + 1) D rootT v G BG.out.2.1 GG.out.2.2.2.1 GG.out.2.2.2.2.1 GG.out.2.2.2.2.2) (fun h k => ⟨h.1.trans k.1, fun y hy => (k.2 y hy).trans (h.2 y hy)⟩) ?hKb (Below.refl _ _) (fun _ => rfl)
        (fun pre W => pre.length ≤ Maps.size D ∧ ∃ a c, Ry w1 m G.heap.size a c (pre.map (·.p)) W) (fun _ _ _ => False) ?hI (fun _ _ _ _ _ hs _ _ => hs) I0.out
        (fun x a' W => ∃ Bx, G.heap.size ≤ Bx ∧ W.heap[Bx]? = some (.cells #[.string x.p, .string x.n, .string x.s, .int .i64 x.v] 28 (0, 0)) ∧ a' = { tmps := #[.pointer (some ⟨t, 0, none⟩), .string rootT, .int .i64 v, undef, undef, undef, .slice none 0 0, .pointer (some ⟨m, 0, none⟩), .pointer (some ⟨Bx, 0, none⟩), .string rootT, .bool true, .bool true, .int .i64 v, .bool false, .bool false, undef, .pointer (some ⟨t, 0, none⟩), .string rootT, .int .i64 v, .func (.func 56) #[] #[.pointer (some ⟨cy, 0, none⟩), .pointer (some ⟨cy + 1, 0, none⟩), .pointer (some ⟨cy + 1 + 1, 0, none⟩)], x.val, undef, undef, undef, undef, undef, undef, undef, undef, undef], defers := [] }) ?hAx ?assign ?body ?done ?stop
      case hKb =>
        intro W l o o' hl ho hc hw
        have q := BG.out
        have q2 := GG.out.2.1
        have q3 := GG.out.2.2.1
        refine ⟨⟨by simp [World.putObj], fun k ob hk hwk => ?_⟩, fun y hy => World.putObj_heap_other (by omega)⟩
        by_cases e : k = l
        · rw [e, ho] at hk
          simp only [Option.some.injEq] at hk
          rw [hk, hwk] at hw
          simp at hw
        · exact (World.putObj_heap_other e).trans hk
      case hI =>
        rintro pre W W' row ⟨hz, a, c, hs⟩ hg hr
        exact ⟨hz, a, c, hs.grown (by have := BG.out.1.size; omega) hg hr⟩
      case hAx =>
        rintro x a' _ W W' row ⟨Bx, h1, h2, h3⟩ hg hr
        exact ⟨Bx, h1, cells_same hg hr h2, h3⟩
      case assign =>
        rintro l pre ⟨xp, xn, xs, xv⟩ W K ⟨hz, a, c, hi⟩ hK
        unfold Bd.val
        have HK := Lib.hid hK
        have HI := Lib.hid hi
        clear hK hi
        gi_wp2
        have bl : Below W.heap.size W (W.alloc (.cells #[.string xp, .string xn, .string xs, .int .i64 xv] 28)) := (Below.refl _ W).alloc (Nat.le_refl _) _
        have q := BG.out
        have q2 := GG.out.2.1
        have q3 := HI.out.gs
        have q4 := GG.out.2.2.1
        refine HK.out _ _ ((KeepsOthers.alloc _ _).from _) ⟨KeepsWalks.alloc _ _, fun y hy => bl.block y ?_⟩ ⟨hz, a, c, HI.out.below bl⟩ ⟨W.heap.size, q3, by rw [heap_alloc_new], rfl⟩
        have := q.1.size
        omega
      case body =>
        rintro l pre ⟨xp, xn, xs, xv⟩ a' W hl ⟨r, hr⟩ ⟨_, a, c, hi⟩ ⟨Bx, hBx, bX, rfl⟩ hlt
        have HI := Lib.hid hi
        have HX : Hid (W.heap[Bx]? = some (.cells #[.string xp, .string xn, .string xs, .int .i64 xv] 28 (0, 0))) := Lib.hid bX
        obtain ⟨ys, hys⟩ : ∃ ys, ys = pre.map (·.p) := ⟨_, rfl⟩
        have YS : Hid (ys ++ [xp] = (pre ++ [(⟨xp, xn, xs, xv⟩ : Bd)]).map (·.p)) := Lib.hid (by rw [hys, List.map_append]; rfl)
        have LN : Hid (ys.length < 100000000) := Lib.hid (by rw [hys, List.length_map]; have := SZ.out; omega)
        have PL : Hid ((pre ++ [(⟨xp, xn, xs, xv⟩ : Bd)]).length ≤ Maps.size D) := Lib.hid (by simp; omega)
        rw [← hys] at HI
        clear hi bX hl hr hlt hys
        have k7 : W.cell? ⟨m, 0, none⟩ = some (.slice a ys.length c) := by rw [cell_of_row _ _ _ _ _ _ HI.out.x]; rfl
        have x0 : W.cell? ⟨Bx, 0, none⟩ = some (.string xp) := by rw [cell_of_row _ _ _ _ _ _ HX.out]; rfl
        unfold Bd.val
        have O := Lib.hid HI.out.o
        have BZ : Hid (G.heap.size ≤ W.heap.size) := Lib.hid HI.out.gs
        gi_wp2_with (first
          | (gi_at_builtin; refine app_rowIn okS (gg := W.heap.size) rfl _ _ rfl rfl O.out BZ.out xp ?hgg rfl rfl LN.out ?_)
          | gi_in)
        case hgg => simp
        intro v' w4 h1 h2
        obtain ⟨a', c', rfl⟩ := h1.slice
        obtain ⟨s1, s2⟩ := HI.out.step h2 h1
        have S4 := Lib.hid (And.intro s1 s2)
        have fz : w4.frozen? ⟨m, 0, none⟩ = false := by
          have nm : (Value.slice a ys.length c).ownBlock ≠ some m := fun e => by have := (O.out.lt m e).1; have := HI.out.le; omega
          exact frozen_of_row _ _ _ _ _ ((h2.block m (lt_of_some HI.out.x) (fun e => nm e.symm)).trans HI.out.x)
        have cz : w4.cell? ⟨m, 0, none⟩ = some (.slice a ys.length c) := by
          have nm : (Value.slice a ys.length c).ownBlock ≠ some m := fun e => by have := (O.out.lt m e).1; have := HI.out.le; omega
          rw [cell_of_row _ _ _ _ _ _ ((h2.block m (lt_of_some HI.out.x) (fun e => nm e.symm)).trans HI.out.x)]; rfl
        have END : Hid (KeepsFrom G.heap.size W (w4.setCell ⟨m, 0, none⟩ (.slice a' (ys ++ [xp]).length c')) ∧ Kg t cy (cy + 1) (cy + 1 + 1) W (w4.setCell ⟨m, 0, none⟩ (.slice a' (ys ++ [xp]).length c')) ∧ (pre ++ [(⟨xp, xn, xs, xv⟩ : Bd)]).length ≤ Maps.size D ∧ ∃ a c, Ry w1 m G.heap.size a c ((pre ++ [(⟨xp, xn, xs, xv⟩ : Bd)]).map (·.p)) (w4.setCell ⟨m, 0, none⟩ (.slice a' (ys ++ [xp]).length c'))) := Lib.hid (by
          have q := BG.out
          have q2 := GG.out.2.1
          have q4 := GG.out.2.2.1
          obtain ⟨e1, e2⟩ := ry_keeps (t := t) (c1 := cy) (c2 := cy + 1) (c3 := cy + 1 + 1) HI.out s2 (by omega) (by omega)
          exact ⟨e1, e2, PL.out, a', c', by rw [← YS.out]; exact s1⟩)
        clear h1 h2 s1 s2
        rw [show (ys ++ [xp]).length = ys.length + 1 by simp] at END
        gi_wp2
        exact END.out
      case done =>
        rintro D' ys W hD hS ⟨hz, a, c, hi⟩ hK
        obtain ⟨ps, hps⟩ := asPaths (ys.map (·.p)) (fun x hx => by obtain ⟨y, hy, rfl⟩ := List.mem_map.1 hx; exact VV.out y ((hS y).1 hy).1)
        have PS : Hid (ps.map (·.1) = ys.map (·.p) ∧ (∀ x, x ∈ ys ↔ InD D x ∧ isB x.s x.v rootT v = true)) := Lib.hid ⟨hps, hS⟩
        have LP : Hid (ps.length < 100000000) := Lib.hid (by have e := congrArg List.length hps; rw [List.length_map, List.length_map] at e; have := SZ.out; omega)
        have HI : Hid (Ry w1 m G.heap.size a c (ps.map (·.1)) W) := Lib.hid (by rw [hps]; exact hi)
        have HO : Hid (OwnR kPt G.heap.size W (.slice a ps.length c) ps) := Lib.hid (own_paths (by have := HI.out.o; rw [List.length_map] at this; exact this))
        have HD : Hid (G.heap.size ≤ D' ∧ W.heap[D']? = some (.deferred (some []))) := Lib.hid ⟨hD, hK⟩
        have WG : Hid (w1.heap.size ≤ G.heap.size) := Lib.hid BG.out.1.size
        have SO := Lib.hid (sort_paths HH.out.hm HI.out.b WG.out HO.out LP.out)
        have k7 : W.cell? ⟨m, 0, none⟩ = some (.slice a ps.length c) := by have := HI.out.x; rw [List.length_map] at this; rw [cell_of_row _ _ _ _ _ _ this]; rfl
        clear hD hS hi hK hps hz
        gi_wp2_with fail
        refine ⟨trivial, (callsIn_wide.2 SO.out).mono ?_⟩
        rintro e w5 ⟨rfl, S, hp, hr, hrow, hg⟩
        have nm : ∀ y, y < G.heap.size → (Value.slice a ps.length c).ownBlock ≠ some y := fun y hy e => by have := (HO.out.lt y e).1; omega
        have b5 : Below w1.heap.size w1 w5 := HI.out.b.trans ((Below.refl _ W).grown hg HI.out.b.size (fun k e => by have := (HO.out.lt k e).1; have := WG.out; omega))
        have S5 : Hid (S.Perm ps ∧ RisP S ∧ Row kPt w5 (.slice a ps.length c) S ∧ Below w1.heap.size w1 w5 ∧ w5.heap[D']? = some (.deferred (some [])) ∧ G.heap.size ≤ w5.heap.size) := Lib.hid ⟨hp, hr, hrow, b5, (hg.block D' (lt_of_some HD.out.2) (fun e => by
          obtain ⟨cs, mm, q⟩ := HO.out.ty D' e.symm
          rw [HD.out.2] at q
          simp at q)).trans HD.out.2, Nat.le_trans HI.out.gs hg.size⟩
        have k8 : w5.cell? ⟨m, 0, none⟩ = some (.slice a ps.length c) := by
          have e : w5.heap[m]? = W.heap[m]? := hg.block m (lt_of_some HI.out.x) (fun e => nm m HI.out.le.2 e.symm)
          have := HI.out.x
          rw [List.length_map] at this
          rw [cell_of_row _ _ _ _ _ _ (e.trans this)]; rfl
        have LS : Hid (S.length < 100000000) := Lib.hid (by rw [hp.length_eq]; exact LP.out)
        have HG := Lib.hid (highest_any (.slice a ps.length c) S w5 (HH.out.hm.below b5) hrow LS.out)
        clear hp hr hrow hg b5 k7 SO
        gi_wp2_with fail
        refine ⟨trivial, (callsIn_wide.2 HG.out).mono ?_⟩
        rintro e w6 ⟨v6, rfl, ho, hb⟩
        have S6 : Hid (OwnR kPt w5.heap.size w6 v6 (hiF S) ∧ Below w5.heap.size w5 w6) := Lib.hid ⟨ho, hb⟩
        have d6 : w6.heap[D']? = some (.deferred (some [])) := (hb.block D' (lt_of_some S5.out.2.2.2.2.1)).trans S5.out.2.2.2.2.1
        have D6 := Lib.hid d6
        clear ho hb k8 HG d6
        gi_wp2
        refine ⟨by simp, .inl ⟨_, _, rfl, run_takeDeferred D6.out, ?_⟩⟩
        have kd : Kept (fun y => y = D') w6 (w6.putObj D' (.deferred none)) := ⟨rfl, rfl, rfl, by simp [World.putObj], fun k _ hn => World.putObj_heap_other hn⟩
        have lD := lt_of_some S5.out.2.2.2.2.1
        have b6 : Below w1.heap.size w1 w6 := S5.out.2.2.2.1.trans (S6.out.2.mono S5.out.2.2.2.1.size)
        refine ⟨_, results_tmp rfl _ _ _, v6, hiF S, rfl, (S6.out.1.kept kd (fun k e q => by have := (S6.out.1.lt k e).1; omega)).mono S5.out.2.2.2.1.size, Or.inr ⟨NB.out, rc_of PS.out.2 PS.out.1 S5.out.1 S5.out.2.1⟩, b6.trans (kd.below b6.size (fun x e => by have := HD.out.1; have := WG.out; omega))⟩
      case stop => rintro D' c' pre W _ _ h _; exact h.elim
  · have ge : (u.toList == [114, 111, 111, 116]) = false := by
      have q := teq_no hs
      rw [show rootT.toList = [114, 111, 111, 116] by rw [ByteArray.toList_eq]; rfl] at q
      exact q
    have NB : Hid (NoR u v) := Lib.hid (fun h => absurd h.1 hs)
    clear hs
    gi_wp2_with fail
    refine ⟨trivial, ?_⟩
    gi_wp2_with fail
    obtain ⟨Y3, hY3⟩ : ∃ Y, Y = w.alloc (.cells #[.slice none 0 0] 49) := ⟨_, rfl⟩
    obtain ⟨m, hm⟩ : ∃ m, m = w.heap.size := ⟨_, rfl⟩
    rw [← hY3, ← hm]
    have BY : Hid (Below w.heap.size w Y3 ∧ Y3.heap.size = m + 1 ∧ Y3.heap[m]? = some (.cells #[.slice none 0 0] 49 (0, 0)) ∧ m = w.heap.size) := Lib.hid (by
      rw [hY3, hm]
      exact ⟨(Below.refl _ _).alloc (Nat.le_refl _) _, by simp, heap_alloc_new _ _, rfl⟩)
    clear hY3 hm
    refine ⟨trivial, (callsIn_wide.2 (giving_any t u v Y3)).mono ?_⟩
    rintro e w2 ⟨rfl, rfl⟩
    unfold gF
    obtain ⟨cy, hcy⟩ : ∃ cy, cy = Y3.heap.size := ⟨_, rfl⟩
    obtain ⟨G, hG⟩ : ∃ G, G = gW Y3 t u v := ⟨_, rfl⟩
    rw [← hG, ← hcy]
    have GG : Hid (Below Y3.heap.size Y3 G ∧ G.heap.size = cy + 3 ∧ cy = m + 1 ∧ (G.cell? ⟨cy, 0, none⟩ = some (.pointer (some ⟨t, 0, none⟩)) ∧ G.cell? ⟨cy + 1, 0, none⟩ = some (.string u) ∧ G.cell? ⟨cy + 1 + 1, 0, none⟩ = some (.int .i64 v))) := Lib.hid (by
      rw [hG, hcy]
      exact ⟨gW_below _ _ _ _, gW_size _ _ _ _, BY.out.2.1, gW_cells _ _ _ _⟩)
    clear hG hcy
    have BG : Hid (Below w.heap.size w G ∧ Tb G t b nn D ∧ m = w.heap.size ∧ t < w.heap.size ∧ b < w.heap.size) := Lib.hid (by
      have b1 : Below w.heap.size w G := BY.out.1.trans (GG.out.1.mono BY.out.1.size)
      exact ⟨b1, HH.out.tb.below b1, BY.out.2.2.2, lt_of_some HH.out.tb.t, HH.out.tb.m.lt⟩)
    have I0 : Hid (([] : List Bd).length ≤ Maps.size D ∧ ∃ a c, Ry w m G.heap.size a c (([] : List Bd).map (·.p)) G) := Lib.hid (by
      refine ⟨Nat.zero_le _, none, 0, (GG.out.1.block _ (lt_of_some BY.out.2.2.1)).trans BY.out.2.2.1, OwnR.nil _ _ _, BG.out.1, Nat.le_refl _, ?_⟩
      have q1 := BG.out.2.2.1
      have q2 := GG.out.2.1
      have q3 := GG.out.2.2.1
      omega)
    gi_wp2_with fail
    refine wpIn_rangeFunc_ownH (α := Bd) rfl (by decide) (gf := 56) (lb := #[.pointer (some ⟨cy, 0, none⟩), .pointer (some ⟨cy + 1, 0, none⟩), .pointer (some ⟨cy + 1 + 1, 0, none⟩)]) rfl trivial (enters_of Tryz.func56 (by kernel_rfl) rfl)
      (giv1 7 (by decide) t b nn cy (cy + 1) (cy + 1 + 1) D u v G BG.out.2.1 GG.out.2.2.2.1 GG.out.2.2.2.2.1 GG.out.2.2.2.2.2) (fun h k => ⟨h.1.trans k.1, fun y hy => (k.2 y hy).trans (h.2 y hy)⟩) ?hKb (Below.refl _ _) (fun _ => rfl)
      (fun pre W => pre.length ≤ Maps.size D ∧ ∃ a c, Ry w m G.heap.size a c (pre.map (·.p)) W) (fun _ _ _ => False) ?hI (fun _ _ _ _ _ hs _ _ => hs) I0.out
      (fun x a' W => ∃ Bx, G.heap.size ≤ Bx ∧ W.heap[Bx]? = some (.cells #[.string x.p, .string x.n, .string x.s, .int .i64 x.v] 28 (0, 0)) ∧ a' = { tmps := #[.pointer (some ⟨t, 0, none⟩), .string u, .int .i64 v, undef, undef, undef, .slice none 0 0, .pointer (some ⟨m, 0, none⟩), .pointer (some ⟨Bx, 0, none⟩), .string u, .bool false, .bool false, undef, undef, .bool false, undef, .pointer (some ⟨t, 0, none⟩), .string u, .int .i64 v, .func (.func 56) #[] #[.pointer (some ⟨cy, 0, none⟩), .pointer (some ⟨cy + 1, 0, none⟩), .pointer (some ⟨cy + 1 + 1, 0, none⟩)], x.val, undef, undef, undef, undef, undef, undef, undef, undef, undef], defers := [] }) ?hAx ?assign ?body ?done ?stop
    case hKb =>
      intro W l o o' hl ho hc hw
      have q := BG.out
      have q2 := GG.out.2.1
      have q3 := GG.out.2.2.1
      refine ⟨⟨by simp [World.putObj], fun k ob hk hwk => ?_⟩, fun y hy => World.putObj_heap_other (by omega)⟩
      by_cases e : k = l
      · rw [e, ho] at hk
        simp only [Option.some.injEq] at hk
        rw [hk, hwk] at hw
        simp at hw
      · exact (World.putObj_heap_other e).trans hk
    case hI =>
      rintro pre W W' row ⟨hz, a, c, hs⟩ hg hr
      exact ⟨hz, a, c, hs.grown (by have := BG.out.1.size; omega) hg hr⟩
    case hAx =>
      rintro x a' _ W W' row ⟨Bx, h1, h2, h3⟩ hg hr
      exact ⟨Bx, h1, cells_same hg hr h2, h3⟩
    case assign =>
      rintro l pre ⟨xp, xn, xs, xv⟩ W K ⟨hz, a, c, hi⟩ hK
      unfold Bd.val
      have HK := Lib.hid hK
      have HI := Lib.hid hi
      clear hK hi
      gi_wp2
      have bl : Below W.heap.size W (W.alloc (.cells #[.string xp, .string xn, .string xs, .int .i64 xv] 28)) := (Below.refl _ W).alloc (Nat.le_refl _) _
      have q := BG.out
      have q2 := GG.out.2.1
      have q3 := HI.out.gs
      have q4 := GG.out.2.2.1
      refine HK.out _ _ ((KeepsOthers.alloc _ _).from _) ⟨KeepsWalks.alloc _ _, fun y hy => bl.block y ?_⟩ ⟨hz, a, c, HI.out.below bl⟩ ⟨W.heap.size, q3, by rw [heap_alloc_new], rfl⟩
      have := q.1.size
      omega
    case body =>
      rintro l pre ⟨xp, xn, xs, xv⟩ a' W hl ⟨r, hr⟩ ⟨_, a, c, hi⟩ ⟨Bx, hBx, bX, rfl⟩ hlt
      have HI := Lib.hid hi
      have HX : Hid (W.heap[Bx]? = some (.cells #[.string xp, .string xn, .string xs, .int .i64 xv] 28 (0, 0))) := Lib.hid bX
      obtain ⟨ys, hys⟩ : ∃ ys, ys = pre.map (·.p) := ⟨_, rfl⟩
      have YS : Hid (ys ++ [xp] = (pre ++ [(⟨xp, xn, xs, xv⟩ : Bd)]).map (·.p)) := Lib.hid (by rw [hys, List.map_append]; rfl)
      have LN : Hid (ys.length < 100000000) := Lib.hid (by rw [hys, List.length_map]; have := SZ.out; omega)
      have PL : Hid ((pre ++ [(⟨xp, xn, xs, xv⟩ : Bd)]).length ≤ Maps.size D) := Lib.hid (by simp; omega)
      rw [← hys] at HI
      clear hi bX hl hr hlt hys
      have k7 : W.cell? ⟨m, 0, none⟩ = some (.slice a ys.length c) := by rw [cell_of_row _ _ _ _ _ _ HI.out.x]; rfl
      have x0 : W.cell? ⟨Bx, 0, none⟩ = some (.string xp) := by rw [cell_of_row _ _ _ _ _ _ HX.out]; rfl
      unfold Bd.val
      have O := Lib.hid HI.out.o
      have BZ : Hid (G.heap.size ≤ W.heap.size) := Lib.hid HI.out.gs
      gi_wp2_with (first
        | (gi_at_builtin; refine app_rowIn okS (gg := W.heap.size) rfl _ _ rfl rfl O.out BZ.out xp ?hgg rfl rfl LN.out ?_)
        | gi_in)
      case hgg => simp
      intro v' w4 h1 h2
      obtain ⟨a', c', rfl⟩ := h1.slice
      obtain ⟨s1, s2⟩ := HI.out.step h2 h1
      have S4 := Lib.hid (And.intro s1 s2)
      have fz : w4.frozen? ⟨m, 0, none⟩ = false := by
        have nm : (Value.slice a ys.length c).ownBlock ≠ some m := fun e => by have := (O.out.lt m e).1; have := HI.out.le; omega
        exact frozen_of_row _ _ _ _ _ ((h2.block m (lt_of_some HI.out.x) (fun e => nm e.symm)).trans HI.out.x)
      have cz : w4.cell? ⟨m, 0, none⟩ = some (.slice a ys.length c) := by
        have nm : (Value.slice a ys.length c).ownBlock ≠ some m := fun e => by have := (O.out.lt m e).1; have := HI.out.le; omega
        rw [cell_of_row _ _ _ _ _ _ ((h2.block m (lt_of_some HI.out.x) (fun e => nm e.symm)).trans HI.out.x)]; rfl
      have END : Hid (KeepsFrom G.heap.size W (w4.setCell ⟨m, 0, none⟩ (.slice a' (ys ++ [xp]).length c')) ∧ Kg t cy (cy + 1) (cy + 1 + 1) W (w4.setCell ⟨m, 0, none⟩ (.slice a' (ys ++ [xp]).length c')) ∧ (pre ++ [(⟨xp, xn, xs, xv⟩ : Bd)]).length ≤ Maps.size D ∧ ∃ a c, Ry w m G.heap.size a c ((pre ++ [(⟨xp, xn, xs, xv⟩ : Bd)]).map (·.p)) (w4.setCell ⟨m, 0, none⟩ (.slice a' (ys ++ [xp]).length c'))) := Lib.hid (by
        have q := BG.out
        have q2 := GG.out.2.1
        have q4 := GG.out.2.2.1
        obtain ⟨e1, e2⟩ := ry_keeps (t := t) (c1 := cy) (c2 := cy + 1) (c3 := cy + 1 + 1) HI.out s2 (by omega) (by omega)
        exact ⟨e1, e2, PL.out, a', c', by rw [← YS.out]; exact s1⟩)
      clear h1 h2 s1 s2
      rw [show (ys ++ [xp]).length = ys.length + 1 by simp] at END
      gi_wp2
      exact END.out
    case done =>
      rintro D' ys W hD hS ⟨hz, a, c, hi⟩ hK
      obtain ⟨ps, hps⟩ := asPaths (ys.map (·.p)) (fun x hx => by obtain ⟨y, hy, rfl⟩ := List.mem_map.1 hx; exact VV.out y ((hS y).1 hy).1)
      have PS : Hid (ps.map (·.1) = ys.map (·.p) ∧ (∀ x, x ∈ ys ↔ InD D x ∧ isB x.s x.v u v = true)) := Lib.hid ⟨hps, hS⟩
      have LP : Hid (ps.length < 100000000) := Lib.hid (by have e := congrArg List.length hps; rw [List.length_map, List.length_map] at e; have := SZ.out; omega)
      have HI : Hid (Ry w m G.heap.size a c (ps.map (·.1)) W) := Lib.hid (by rw [hps]; exact hi)
      have HO : Hid (OwnR kPt G.heap.size W (.slice a ps.length c) ps) := Lib.hid (own_paths (by have := HI.out.o; rw [List.length_map] at this; exact this))
      have HD : Hid (G.heap.size ≤ D' ∧ W.heap[D']? = some (.deferred (some []))) := Lib.hid ⟨hD, hK⟩
      have WG : Hid (w.heap.size ≤ G.heap.size) := Lib.hid BG.out.1.size
      have SO := Lib.hid (sort_paths HH.out.hm HI.out.b WG.out HO.out LP.out)
      have k7 : W.cell? ⟨m, 0, none⟩ = some (.slice a ps.length c) := by have := HI.out.x; rw [List.length_map] at this; rw [cell_of_row _ _ _ _ _ _ this]; rfl
      clear hD hS hi hK hps hz
      gi_wp2_with fail
      refine ⟨trivial, (callsIn_wide.2 SO.out).mono ?_⟩
      rintro e w5 ⟨rfl, S, hp, hr, hrow, hg⟩
      have nm : ∀ y, y < G.heap.size → (Value.slice a ps.length c).ownBlock ≠ some y := fun y hy e => by have := (HO.out.lt y e).1; omega
      have b5 : Below w.heap.size w w5 := HI.out.b.trans ((Below.refl _ W).grown hg HI.out.b.size (fun k e => by have := (HO.out.lt k e).1; have := WG.out; omega))
      have S5 : Hid (S.Perm ps ∧ RisP S ∧ Row kPt w5 (.slice a ps.length c) S ∧ Below w.heap.size w w5 ∧ w5.heap[D']? = some (.deferred (some [])) ∧ G.heap.size ≤ w5.heap.size) := Lib.hid ⟨hp, hr, hrow, b5, (hg.block D' (lt_of_some HD.out.2) (fun e => by
        obtain ⟨cs, mm, q⟩ := HO.out.ty D' e.symm
        rw [HD.out.2] at q
        simp at q)).trans HD.out.2, Nat.le_trans HI.out.gs hg.size⟩
      have k8 : w5.cell? ⟨m, 0, none⟩ = some (.slice a ps.length c) := by
        have e : w5.heap[m]? = W.heap[m]? := hg.block m (lt_of_some HI.out.x) (fun e => nm m HI.out.le.2 e.symm)
        have := HI.out.x
        rw [List.length_map] at this
        rw [cell_of_row _ _ _ _ _ _ (e.trans this)]; rfl
      have LS : Hid (S.length < 100000000) := Lib.hid (by rw [hp.length_eq]; exact LP.out)
      have HG := Lib.hid (highest_any (.slice a ps.length c) S w5 (HH.out.hm.below b5) hrow LS.out)
      clear hp hr hrow hg b5 k7 SO
      gi_wp2_with fail
      refine ⟨trivial, (callsIn_wide.2 HG.out).mono ?_⟩
      rintro e w6 ⟨v6, rfl, ho, hb⟩
      have S6 : Hid (OwnR kPt w5.heap.size w6 v6 (hiF S) ∧ Below w5.heap.size w5 w6) := Lib.hid ⟨ho, hb⟩
      have d6 : w6.heap[D']? = some (.deferred (some [])) := (hb.block D' (lt_of_some S5.out.2.2.2.2.1)).trans S5.out.2.2.2.2.1
      have D6 := Lib.hid d6
      clear ho hb k8 HG d6
      gi_wp2
      refine ⟨by simp, .inl ⟨_, _, rfl, run_takeDeferred D6.out, ?_⟩⟩
      have kd : Kept (fun y => y = D') w6 (w6.putObj D' (.deferred none)) := ⟨rfl, rfl, rfl, by simp [World.putObj], fun k _ hn => World.putObj_heap_other hn⟩
      have lD := lt_of_some S5.out.2.2.2.2.1
      have b6 : Below w.heap.size w w6 := S5.out.2.2.2.1.trans (S6.out.2.mono S5.out.2.2.2.1.size)
      refine ⟨_, results_tmp rfl _ _ _, v6, hiF S, rfl, (S6.out.1.kept kd (fun k e q => by have := (S6.out.1.lt k e).1; omega)).mono S5.out.2.2.2.1.size, Or.inr ⟨NB.out, rc_of PS.out.2 PS.out.1 S5.out.1 S5.out.2.1⟩, b6.trans (kd.below b6.size (fun x e => by have := HD.out.1; have := WG.out; omega))⟩
    case stop => rintro D' c' pre W _ _ h _; exact h.elim
end Ac
end Go.Proofs.YthdofbjijpghfaaGreatDoor
