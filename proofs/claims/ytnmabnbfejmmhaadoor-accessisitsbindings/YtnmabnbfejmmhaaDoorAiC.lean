/-
  The law's sameBindings and rises; two lists that rise and hold the same are one.
-/
import Derived.Test.YtnmabnbfejmmhaaDoorAiB
namespace Go.Proofs.YtnmabnbfejmmhaaDoor
open Go.RowKit Go.Sort Go.Lib
namespace Ac
theorem rise_eq {α : Type} {r : α → α → Prop} (irr : ∀ a, ¬ r a a) (tr : ∀ a b c, r a b → r b c → r a c) : ∀ {l1 l2 : List α}, l1.Pairwise r → l2.Pairwise r → (∀ x, x ∈ l1 ↔ x ∈ l2) → l1 = l2
  | [], [], _, _, _ => rfl
  | [], b :: _, _, _, h => by simpa using (h b).2 (by simp)
  | a :: _, [], _, _, h => by simpa using (h a).1 (by simp)
  | a :: l1, b :: l2, h1, h2, h => by
    rw [List.pairwise_cons] at h1 h2
    have e : a = b := by
      rcases List.mem_cons.1 ((h a).1 (by simp)) with q | q
      · exact q
      · rcases List.mem_cons.1 ((h b).2 (by simp)) with q' | q'
        · exact q'.symm
        · exact (irr a (tr _ _ _ (h1.1 b q') (h2.1 a q))).elim
    subst e
    have := rise_eq irr tr h1.2 h2.2 (fun x => ⟨fun hx => by
      rcases List.mem_cons.1 ((h x).1 (by simp [hx])) with q | q
      · subst q; exact (irr _ (h1.1 _ hx)).elim
      · exact q, fun hx => by
      rcases List.mem_cons.1 ((h x).2 (by simp [hx])) with q | q
      · subst q; exact (irr _ (h2.1 _ hx)).elim
      · exact q⟩)
    rw [this]
theorem lt_total {x y : Bv} (h1 : ltOf cV y x = false) (h2 : kl x.1.p x.1.n ≠ kl y.1.p y.1.n) : ltOf cV x y = true := by
  rw [lt_cV] at h1 ⊢
  have a := of_decide_eq_false h1
  refine decide_eq_true ?_
  by_cases e : (key x).1 = (key y).1
  · refine Or.inr ⟨e, ?_⟩
    have hp : x.1.p = y.1.p := path_inj x y (ky_inj e)
    have hn : ¬ (key y).2 < (key x).2 := fun q => a (Or.inr ⟨e.symm, q⟩)
    rcases Classical.em ((key x).2 < (key y).2) with q | q
    · exact q
    · have e2 : (key x).2 = (key y).2 := List.le_antisymm (List.not_lt.1 hn) (List.not_lt.1 q)
      exact absurd (by rw [hp, ByteArray.ext (Array.ext' e2)]) h2
  · rcases Classical.em ((key x).1 < (key y).1) with q | q
    · exact Or.inl q
    · exact absurd (List.le_antisymm (List.not_lt.1 (fun q' => a (Or.inl q'))) (List.not_lt.1 q)) e
theorem Li.rises {D : DataW Unit} {S : List Bv} (h : Li D S) : S.Pairwise (fun x y => ltOf cV x y = true) := by
  have := List.Pairwise.and h.r h.d
  exact this.imp fun ⟨a, b⟩ => lt_total a b
theorem Li.one {D D' : DataW Unit} {S S' : List Bv} (h : Li D S) (h' : Li D' S') (e : ∀ x, InD D x ↔ InD D' x) : S = S' := by
  refine rise_eq (r := fun x y => ltOf cV x y = true) (fun a q => by rw [swoV.irrefl] at q; simp at q) (fun a b c => swoV.trans a b c) h.rises h'.rises fun x => ?_
  have key : ∀ {D : DataW Unit} {S : List Bv}, Li D S → (x ∈ S ↔ InD D x.1) := fun hl => ⟨fun q => (hl.m x.1).1 ⟨x, q, rfl⟩, fun q => by
    obtain ⟨y, hy, ey⟩ := (hl.m x.1).2 q
    rw [← Subtype.ext ey]; exact hy⟩
  rw [key h, key h', e]
set_option maxHeartbeats 4000000 in
set_option maxRecDepth 100000 in
theorem sameBindings_yes (v u : Value) (l : List Bv) (w : World) (hv : Row kBv w v l) (hu : Row kBv w u l) :
    Calls Tryd.prog 8 #[v, u] w fun e w' => e = .returned (.bool true) ∧ Below w.heap.size w w' := by
  have V : Aside (Row kBv w v l ∧ Row kBv w u l) := ⟨hv, hu⟩
  obtain ⟨a, cap, rfl, hlc, hcm⟩ := hv.len
  obtain ⟨a', cap', rfl, hlc', hcm'⟩ := hu.len
  unfold maxLen at hcm hcm'
  clear hv hu
  go_enter Tryd.func8, Tryd.ntmps8
  go_wp2_with fail
  go_loopg [5] l.length (fun g si wr => ∃ (k : Nat), k ≤ l.length ∧ g = l.length - k ∧ si = .int .i64 k ∧ Below w.heap.size w wr)
  case atStart => exact ⟨0, Nat.zero_le _, rfl, rfl, Below.refl _ _⟩
  case round =>
    obtain ⟨k, hk, hg, rfl, hb⟩ := hrel
    have R : Aside (gk = l.length - k ∧ Below w.heap.size w wr) := ⟨hg, hb⟩
    clear hg hb
    by_cases hlt : k < l.length
    · obtain ⟨b, off, rfl, p0, p1, p2, p3⟩ := row_atB (V.out.1.below R.out.2) k hlt
      obtain ⟨b', off', rfl, q0, q1, q2, q3⟩ := row_atB (V.out.2.below R.out.2) k hlt
      obtain ⟨x, hx⟩ : ∃ x, x = (l.getD k Bv.z).1 := ⟨_, rfl⟩
      rw [← hx] at p0 p1 p2 p3 q0 q1 q2 q3
      clear hx
      obtain ⟨xp, xn, xs, xv⟩ := x
      simp only at p0 p1 p2 p3 q0 q1 q2 q3
      have hlt' : (k : Int) < (l.length : Int) := by omega
      go_wp2_with fail
      go_quiet (fail)
      go_wp2_with fail
      go_roundg (l.length - (k + 1))
      case measure => have := R.out.1; omega
      case rel => exact ⟨k + 1, by omega, rfl, by go_num, R.out.2.trans ((below_drawn wr _).mono R.out.2.size)⟩
    · go_wp2_with fail
      go_ret
      exact ⟨rfl, R.out.2⟩
theorem cmS_less {x y : ByteArray} (h : cmS x y < 0) : Op.bytesLess x.toList y.toList = true := by
  unfold cmS at h
  split at h
  · assumption
  · split at h <;> simp at h
set_option maxHeartbeats 4000000 in
set_option maxRecDepth 100000 in
theorem rises_yes (x y : Bv) (w : World) (hm : L.HasM w) (h : ltOf cV x y = true) : Calls Tryd.prog 9 #[x.1.val, y.1.val] w fun e w' => e = .returned (.bool true) ∧ Below w.heap.size w w' := by
  have LT : Hid (cB x.1 y.1 < 0) := Lib.hid (by unfold ltOf cV at h; simpa using h)
  clear h
  obtain ⟨x, hx⟩ := x
  obtain ⟨y, hy⟩ := y
  simp only at LT ⊢
  clear hx hy
  obtain ⟨ap, an, az, av⟩ := x
  obtain ⟨bp, bn, bz, bv⟩ := y
  unfold Bd.val
  simp only
  obtain ⟨X, hX⟩ : ∃ X, X = w.alloc (.cells #[.string ap, .string an, .string az, .int .i64 av] 28) := ⟨_, rfl⟩
  obtain ⟨Y, hY⟩ : ∃ Y, Y = X.alloc (.cells #[.string bp, .string bn, .string bz, .int .i64 bv] 28) := ⟨_, rfl⟩
  obtain ⟨g1, hg1⟩ : ∃ g, g = w.heap.size := ⟨_, rfl⟩
  obtain ⟨g2, hg2⟩ : ∃ g, g = X.heap.size := ⟨_, rfl⟩
  have BY : Hid (Below w.heap.size w Y) := Lib.hid (by
    have h1 : Below w.heap.size w X := by rw [hX]; exact (Below.refl _ w).alloc (Nat.le_refl _) _
    rw [hY]; exact h1.alloc h1.size _)
  have x0 : X.cell? ⟨g1, 0, none⟩ = some (.string ap) := by rw [hX, hg1, World.cell?_alloc_new]; rfl
  have x1 : X.cell? ⟨g1, 1, none⟩ = some (.string an) := by rw [hX, hg1, World.cell?_alloc_new]; rfl
  have y0 : Y.cell? ⟨g2, 0, none⟩ = some (.string bp) := by rw [hY, hg2, World.cell?_alloc_new]; rfl
  have y1 : Y.cell? ⟨g2, 1, none⟩ = some (.string bn) := by rw [hY, hg2, World.cell?_alloc_new]; rfl
  have p0 : Y.cell? ⟨g1, 0, none⟩ = some (.string ap) := by rw [hY]; exact cellA x0 _
  have p1 : Y.cell? ⟨g1, 1, none⟩ = some (.string an) := by rw [hY]; exact cellA x1 _
  have HM := Lib.hid (hm.below BY.out)
  have hX' := hX.symm
  have hY' := hY.symm
  have hg1' := hg1.symm
  have hg2' := hg2.symm
  clear hX hY hg1 hg2 x0 x1 hm
  by_cases he : ap = bp
  · subst he
    have q0 : Op.bytesLess an.toList bn.toList = true := cmS_less (by have := LT.out; unfold cB at this; rw [if_pos rfl] at this; exact this)
    have q1 : (ap.toList == ap.toList) = true := beq_self_eq_true _
    go_enter Tryd.func9, Tryd.ntmps9
    go_wp2_with fail
    go_ret
    exact ⟨rfl, BY.out⟩
  · have LL : Hid (cmL (L.splitT ap) (L.splitT bp) < 0) := Lib.hid (by have := LT.out; unfold cB at this; rw [if_neg he] at this; exact this)
    have q1 := teq_no he
    clear he LT
    have S1 := Lib.hid (L.split_any ap Y HM.out)
    go_enter Tryd.func9, Tryd.ntmps9
    go_wp2_with fail
    refine S1.out.mono ?_
    rintro e w1 ⟨v1, rfl, o1, hb1⟩
    have z0 : w1.cell? ⟨g2, 0, none⟩ = some (.string bp) := (hb1.cell (block_lt_of_cell y0)).trans y0
    have O1 := Lib.hid (And.intro o1.strs hb1)
    have S2 := Lib.hid (L.split_any bp w1 (HM.out.below hb1))
    clear o1 hb1 S1
    go_wp2_with fail
    refine S2.out.mono ?_
    rintro e w2 ⟨v2, rfl, o2, hb2⟩
    have O2 : Hid (L.Strs w2 v1 (L.splitT ap) ∧ L.Strs w2 v2 (L.splitT bp) ∧ Below w.heap.size w w2) := Lib.hid ⟨O1.out.1.below hb2, o2.strs, BY.out.trans ((O1.out.2.trans (hb2.mono O1.out.2.size)).mono BY.out.size)⟩
    clear o2 hb2 O1 S2 z0 y0 y1 p0 p1
    generalize L.splitT ap = xs at LL O2
    generalize L.splitT bp = ys at LL O2
    obtain ⟨a0, c0, rfl, _, hm0⟩ := O2.out.1.len
    obtain ⟨a1, c1, rfl, _, hm1⟩ := O2.out.2.1.len
    obtain ⟨n0, hn0⟩ : ∃ n, n = xs.length := ⟨_, rfl⟩
    obtain ⟨n1, hn1⟩ : ∃ n, n = ys.length := ⟨_, rfl⟩
    rw [← hn0, ← hn1] at O2
    rw [← hn0, ← hn1]
    have HN := Lib.hid (And.intro hn0 hn1)
    have b0 : n0 ≤ 9223372036854775807 := by unfold maxLen at hm0; omega
    have b1 : n1 ≤ 9223372036854775807 := by unfold maxLen at hm1; omega
    clear hm0 hm1 hn0 hn1
    have T0 : Hid (cmL (xs.drop 0) (ys.drop 0) < 0) := Lib.hid (by simpa using LL.out)
    go_wp2_with fail
    go_loopg [9] n0 (fun gg si wr => ∃ i : Nat, i ≤ n0 ∧ i ≤ n1 ∧ gg = n0 - i ∧ si = .int .i64 i ∧ Hid (cmL (xs.drop i) (ys.drop i) < 0 ∧ Below w2.heap.size w2 wr))
    case atStart => exact ⟨0, by omega, by omega, rfl, rfl, Lib.hid ⟨T0.out, Below.refl _ _⟩⟩
    case round =>
      clear T0 LL
      obtain ⟨i, hi0, hi1, hg, rfl, R⟩ := hrel
      have G := Lib.hid hg
      clear hg
      by_cases h0 : i < n0
      · have h0' : (i : Int) < (n0 : Int) := by omega
        by_cases h1 : i < n1
        · have h1' : (i : Int) < (n1 : Int) := by omega
          obtain ⟨bb, off, ea, pc⟩ := (O2.out.1.below R.out.2).at i (by rw [← HN.out.1]; exact h0)
          obtain ⟨bb1, off1, ea1, pc1⟩ := (O2.out.2.1.below R.out.2).at i (by rw [← HN.out.2]; exact h1)
          subst ea ea1
          have DR := Lib.hid (cmL_drop (xs := xs) (ys := ys) (i := i) (by rw [← HN.out.1]; exact h0) (by rw [← HN.out.2]; exact h1))
          obtain ⟨x, hx⟩ : ∃ x, x = xs.getD i ⟨#[]⟩ := ⟨_, rfl⟩
          obtain ⟨y, hy⟩ : ∃ y, y = ys.getD i ⟨#[]⟩ := ⟨_, rfl⟩
          rw [← hx] at pc DR
          rw [← hy] at pc1 DR
          clear hx hy
          by_cases hxy : x = y
          · subst hxy
            have q2 : (x.toList == x.toList) = true := beq_self_eq_true _
            have q3 : (x.toList != x.toList) = false := bne_self_eq_false _
            have NX : Hid (cmL (xs.drop (i + 1)) (ys.drop (i + 1)) < 0) := Lib.hid (by have h := R.out.1; rw [DR.out, if_pos ((cmS_zero x x).2 rfl)] at h; exact h)
            go_wp2_with fail
            go_quiet (fail)
            go_wp2_with fail
            go_roundg (n0 - (i + 1))
            case measure => have := G.out; omega
            case rel => exact ⟨i + 1, by omega, by omega, rfl, by go_num, Lib.hid ⟨NX.out, R.out.2.trans ((below_drawn wr _).mono R.out.2.size)⟩⟩
          · have q2 := teq_no hxy
            have q3 : (x.toList != y.toList) = true := by rw [bne, q2]; rfl
            have q4 : Op.bytesLess x.toList y.toList = true := cmS_less (by have h := R.out.1; rw [DR.out, if_neg (fun q => hxy ((cmS_zero x y).1 q))] at h; exact h)
            have pd : ∀ M, (wr.drewN M).cell? ⟨bb, off + i, none⟩ = some (.string x) := fun M => pc
            have pd1 : ∀ M, (wr.drewN M).cell? ⟨bb1, off1 + i, none⟩ = some (.string y) := fun M => pc1
            clear hxy
            go_wp2_with fail
            go_quiet (fail)
            go_wp2_with fail
            go_quiet (fail)
            go_wp2_with fail
            go_ret
            exact ⟨rfl, by first | exact O2.out.2.2.trans ((R.out.2.trans ((below_drawn wr _).mono R.out.2.size)).mono O2.out.2.2.size) | exact O2.out.2.2.trans (((R.out.2.trans ((below_drawn wr _).mono R.out.2.size)).trans ((below_drawn _ _).mono (R.out.2.trans ((below_drawn wr _).mono R.out.2.size)).size)).mono O2.out.2.2.size)⟩
        · have hn : Hid (False) := Lib.hid (by
            have h := R.out.1
            rw [show ys.drop i = [] from List.drop_eq_nil_of_le (by rw [← HN.out.2]; omega)] at h
            obtain ⟨z, zs, e⟩ := List.exists_cons_of_length_pos (l := xs.drop i) (by rw [List.length_drop, ← HN.out.1]; omega)
            rw [e] at h
            simp [cmL] at h)
          exact hn.out.elim
      · have h0' : ¬ (i : Int) < (n0 : Int) := by omega
        have hf : (n0 : Int) < (n1 : Int) := by
          have h := R.out.1
          rw [show xs.drop i = [] from List.drop_eq_nil_of_le (by rw [← HN.out.1]; omega)] at h
          rcases Nat.lt_or_ge n0 n1 with q | q
          · omega
          · rw [show ys.drop i = [] from List.drop_eq_nil_of_le (by rw [← HN.out.2]; omega)] at h
            simp [cmL] at h
        go_wp2_with fail
        go_ret
        exact ⟨rfl, by first | exact O2.out.2.2.trans (R.out.2.mono O2.out.2.2.size) | (rw [← hg1']; exact O2.out.2.2.trans (R.out.2.mono O2.out.2.2.size))⟩
end Ac
end Go.Proofs.YtnmabnbfejmmhaaDoor
