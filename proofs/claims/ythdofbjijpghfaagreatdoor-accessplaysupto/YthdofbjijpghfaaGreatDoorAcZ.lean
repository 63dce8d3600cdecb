/-
  Leave, exactly.
-/
import Derived.Test.YthdofbjijpghfaaGreatDoorAcQ
namespace Go.Proofs.YthdofbjijpghfaaGreatDoor
open Go.RowKit
namespace Ac
theorem InD.del {D : DataW Unit} {x : Bd} {p q : ByteArray} (h1 : p.size ≤ maxLen) (h2 : q.size ≤ maxLen) : InD (D.del (kl p q)) x ↔ InD D x ∧ ¬ (x.p = p ∧ x.n = q) := by
  constructor
  · intro h
    have hne : kl x.p x.n ≠ kl p q := fun e => by
      have a := h.1 (.map [])
      have b := h.1 (.lit (.bool true))
      rw [e, Maps.atKey_del_same] at a b
      rw [← a] at b
      simp at b
    refine ⟨⟨fun zd => by rw [← Maps.atKey_del_other hne]; exact h.1 zd, h.2⟩, fun e => hne (by rw [e.1, e.2])⟩
  · rintro ⟨h, hn⟩
    have hne : kl x.p x.n ≠ kl p q := fun e => hn (kl_inj e h.2.1 h.2.2 h1 h2)
    exact ⟨fun zd => by rw [Maps.atKey_del_other hne]; exact h.1 zd, h.2⟩
/-- So many bindings lie at p. -/
def Cn (D : DataW Unit) (p : ByteArray) (k : Nat) : Prop := ∃ ll : List Bd, (ll.Pairwise fun a b => kl a.p a.n ≠ kl b.p b.n) ∧ (∀ x, x ∈ ll ↔ InD D x ∧ x.p = p) ∧ k = ll.length
structure Cp (D : DataW Unit) (p : ByteArray) (left : Lit → Bool) (ll : List Bd) : Prop where
  m : ∀ x, x ∈ ll ↔ InD D x ∧ x.p = p ∧ left (kl x.p x.n) = false
  d : ll.Pairwise fun a b => kl a.p a.n ≠ kl b.p b.n
variable {D : DataW Unit} {p : ByteArray} {left : Lit → Bool} {ll : List Bd}
theorem InD.same {x y : Bd} (hx : InD D x) (hy : InD D y) (e : kl x.p x.n = kl y.p y.n) : x = y := by
  have q := hx.1 (.map [])
  rw [e, hy.1] at q
  obtain ⟨q1, q2⟩ := eR_inj q
  obtain ⟨r1, r2⟩ := kl_inj e hx.2.1 hx.2.2 hy.2.1 hy.2.2
  cases x; cases y
  simp only at q1 q2 r1 r2
  rw [q1, q2, r1, r2]
theorem Cp.start : Cp D p (Maps.has D) [] := ⟨fun x => by
  refine ⟨fun h => by simp at h, fun h => ?_⟩
  rw [Maps.has_true_of_atKey h.1.1] at h
  simp at h, List.Pairwise.nil⟩
theorem Cp.pass (h : Cp D p left ll) {x : Bd} (hx : InD D x) (hp : x.p ≠ p) : Cp D p (fun z => left z && !z.sameKey (kl x.p x.n)) ll := ⟨fun y => by
  rw [h.m y]
  refine ⟨fun ⟨a, b, c⟩ => ⟨a, b, by simp [c]⟩, fun ⟨a, b, c⟩ => ⟨a, b, ?_⟩⟩
  by_cases e : kl y.p y.n = kl x.p x.n
  · rw [a.same hx e] at b
    exact absurd b hp
  · simpa [Maps.sameKey_ne e] using c, h.d⟩
theorem Cp.take {x : Bd} (h : Cp D x.p left ll) (hx : InD D x) (hl : left (kl x.p x.n) = true) : Cp D x.p (fun z => left z && !z.sameKey (kl x.p x.n)) (ll ++ [x]) := ⟨fun y => by
  rw [List.mem_append, List.mem_singleton, h.m y]
  constructor
  · rintro (⟨a, b, c⟩ | rfl)
    · exact ⟨a, b, by simp [c]⟩
    · exact ⟨hx, rfl, by simp [same_kl]⟩
  · rintro ⟨a, b, c⟩
    by_cases e : kl y.p y.n = kl x.p x.n
    · exact Or.inr (a.same hx e)
    · exact Or.inl ⟨a, b, by simpa [Maps.sameKey_ne e] using c⟩, by
  rw [List.pairwise_append]
  refine ⟨h.d, List.pairwise_singleton _ _, fun a ha b hb => ?_⟩
  rw [List.mem_singleton] at hb
  subst hb
  intro e
  have q := ((h.m a).1 ha).2.2
  rw [e, hl] at q
  simp at q⟩
theorem nodup_kl {ll : List Bd} (h : ll.Pairwise fun a b => kl a.p a.n ≠ kl b.p b.n) : ll.Nodup := h.imp fun h e => h (by rw [e])
theorem len_le {α : Type} : ∀ {l1 l2 : List α}, l1.Nodup → (∀ x ∈ l1, x ∈ l2) → l1.length ≤ l2.length
  | [], _, _, _ => by simp
  | x :: r, l2, hn, hs => by
    obtain ⟨s, t, rfl⟩ := List.append_of_mem (hs x (by simp))
    rw [List.nodup_cons] at hn
    have := len_le (l2 := s ++ t) hn.2 (fun y hy => by
      have q := hs y (by simp [hy])
      rw [List.mem_append, List.mem_cons] at q
      rw [List.mem_append]
      rcases q with q | rfl | q
      · exact Or.inl q
      · exact absurd hy hn.1
      · exact Or.inr q)
    simp only [List.length_append, List.length_cons] at this ⊢
    omega
theorem Cn.one {k k' : Nat} (h : Cn D p k) (h' : Cn D p k') : k = k' := by
  obtain ⟨l1, d1, m1, rfl⟩ := h
  obtain ⟨l2, d2, m2, rfl⟩ := h'
  exact Nat.le_antisymm (len_le (nodup_kl d1) fun x hx => (m2 x).2 ((m1 x).1 hx)) (len_le (nodup_kl d2) fun x hx => (m1 x).2 ((m2 x).1 hx))
/-- Of D the bindings at p were taken away whose keys have come. -/
structure Lv (D : DataW Unit) (p : ByteArray) (D1 : DataW Unit) (left : Lit → Bool) (k : Nat) : Prop where
  m : ∀ x, InD D1 x ↔ InD D x ∧ (x.p ≠ p ∨ left (kl x.p x.n) = true)
  s : Maps.size D1 + k = Maps.size D
  c : ∃ ll, Cp D p left ll ∧ k = ll.length
variable {D1 : DataW Unit} {k : Nat}
theorem Lv.start : Lv D p D (Maps.has D) 0 := ⟨fun _ => ⟨fun h => ⟨h, Or.inr (Maps.has_true_of_atKey h.1)⟩, fun h => h.1⟩, rfl, [], Cp.start, rfl⟩
theorem Lv.pass (h : Lv D p D1 left k) {x : Bd} (hx : InD D1 x) (hp : x.p ≠ p) : Lv D p D1 (fun z => left z && !z.sameKey (kl x.p x.n)) k := ⟨fun y => by
  rw [h.m y]
  refine ⟨fun ⟨a, b⟩ => ⟨a, ?_⟩, fun ⟨a, b⟩ => ⟨a, b.imp id (fun q => by simp at q; exact q.1)⟩⟩
  by_cases e : kl y.p y.n = kl x.p x.n
  · exact Or.inl (by rw [(kl_inj e a.2.1 a.2.2 hx.2.1 hx.2.2).1]; exact hp)
  · exact b.imp id (fun q => by simp [q, Maps.sameKey_ne e]), h.s, by
  obtain ⟨ll, hc, e⟩ := h.c
  exact ⟨ll, hc.pass ((h.m x).1 hx).1 hp, e⟩⟩
theorem Lv.take {x : Bd} (h : Lv D x.p D1 left k) (hx : InD D1 x) (ht : Maps.Tidy D1) : Lv D x.p (D1.del (kl x.p x.n)) (fun z => left z && !z.sameKey (kl x.p x.n)) (k + 1) := ⟨fun y => by
  rw [InD.del hx.2.1 hx.2.2, h.m y]
  constructor
  · rintro ⟨⟨a, b⟩, c⟩
    refine ⟨a, b.imp id (fun q => ?_)⟩
    have e : kl y.p y.n ≠ kl x.p x.n := fun e => c (kl_inj e a.2.1 a.2.2 hx.2.1 hx.2.2)
    simp [q, Maps.sameKey_ne e]
  · rintro ⟨a, b⟩
    refine ⟨⟨a, b.imp id (fun q => by simp at q; exact q.1)⟩, fun c => ?_⟩
    rcases b with b | b
    · exact b c.1
    · rw [c.1, c.2, same_kl] at b
      simp at b, by
  have q := Maps.size_del (k := kl x.p x.n) ht
  have := h.s
  rw [Maps.has_true_of_atKey hx.1] at q
  simp at q
  omega, by
  obtain ⟨ll, hc, e⟩ := h.c
  exact ⟨_, hc.take ((h.m x).1 hx).1 (((h.m x).1 hx).2.resolve_left (fun q => q rfl)), by simp [e]⟩⟩
variable {w w' : World} {t b n : Nat}
set_option maxHeartbeats 4000000 in
set_option maxRecDepth 100000 in
theorem leave_ex (p : ByteArray) (w : World) (t b n : Nat) (D : DataW Unit) (H : Ta w t b n D) (hn : n ≤ 1000000) :
    Calls Tryz.prog 14 #[.pointer (some ⟨t, 0, none⟩), .string p] w fun e w' => ∃ (k : Nat) (D' : DataW Unit), e = .returned (.int .i64 k) ∧ Ta w' t b n D' ∧ Kept (fun y => y = b) w w' ∧ Lv D p D' (fun _ => false) k := by
  have H' := Lib.hid H
  have SZ := Lib.hid (Nat.le_trans H.tb.m.size_le hn)
  have c0 := H.tb.cell
  clear H hn
  obtain ⟨r, hr⟩ : ∃ r, r = w.heap.size := ⟨_, rfl⟩
  go_enter Tryz.func14, Tryz.ntmps14
  go_wp2_with (at_range; refine wpList_range_own _ rfl _ 36 rfl 52 54 K Tryz.underlying36 rR b n D rfl H'.out.tb.m ?_; intro w0 hrg0 hg0 hs0)
  go_frame
  rw [← hr] at hrg0 ⊢
  have R0 := Lib.hid hrg0
  have S0 : Hid (Rg w t b r n (Maps.has D) (Maps.size D) w0) := Lib.hid (by
    have bl : Below w.heap.size w w0 := (Below.refl _ w).grown hg0 (Nat.le_refl _) (fun k e => by cases e)
    exact ⟨(bl.block t (lt_of_some H'.out.tb.t)).trans H'.out.tb.t, ⟨D, hrg0⟩, H'.out.hm.below bl, Below.kept bl _⟩)
  have RB : Hid (w.heap.size ≤ r ∧ b < w.heap.size ∧ t < w.heap.size ∧ t ≠ b) := Lib.hid ⟨by rw [hr]; exact Nat.le_refl _, H'.out.tb.m.lt, lt_of_some H'.out.tb.t, H'.out.tb.ne⟩
  clear hrg0 hg0 hs0 hr c0
  go_loopw [5] (fun s wr => ∃ (left : Lit → Bool) (cnt k : Nat) (D1 : DataW Unit), s = .int .i64 k ∧ Hid (Rg w t b r n left cnt wr ∧ k + cnt ≤ Maps.size D ∧ wr.ranges Tryz.prog 52 rR b r n D1 left cnt ∧ Lv D p D1 left k)) (fun _ wr => wr.rangeLeft b r)
  case atStart => exact ⟨_, _, 0, D, rfl, Lib.hid ⟨S0.out, by omega, R0.out, Lv.start⟩⟩
  case round =>
    clear S0 R0
    obtain ⟨left, cnt, k, D1, rfl, S⟩ := hrel
    have hk : (k : Int) < 1000001 := by have := S.out.2.1; have := SZ.out; omega
    have R1 := Lib.hid S.out.2.2.1
    go_wp2_with (at_next; refine wpList_next_ranges _ rfl _ rfl 52 K rR (fun x : ByteArray × ByteArray => pv x.1 x.2) (fun x : ByteArray × Int => rv x.1 x.2) (fun key l h => (key_inv key l h).imp fun _ q => q.1) (fun v y h => (rR_inv v y h).imp fun _ q => q.1) b r n D1 left cnt rfl R1.out ?_ ?_)
    · intro h0 hl
      have LF : Hid (Lv D p D1 (fun _ => false) k) := Lib.hid (by
        have e : left = fun _ => false := funext hl
        rw [← e]
        exact S.out.2.2.2)
      go_wp2_with fail
      go_ret
      exact ⟨k, D1, rfl, ⟨⟨S.out.1.t, R1.out.owns⟩, S.out.1.hm⟩, S.out.1.k, LF.out⟩
    · rintro p2 q2 s2 v2 l2 yd yp w2 cnt2 hkey hl2 hR hat hrg2 hlt hg2 hs2 hen
      have KY := Lib.hid hkey
      have IN : Hid (InD D1 ⟨p2, q2, s2, v2⟩ ∧ l2 = kl p2 q2) := Lib.hid (by
        obtain ⟨⟨a, b'⟩, e1, e2, e3, e4⟩ := key_inv _ _ hkey
        unfold pv at e1
        simp only [Value.agg.injEq, Array.mk.injEq, List.cons.injEq, Value.string.injEq, and_true] at e1
        obtain ⟨f1, f2⟩ := e1
        subst f1 f2
        obtain ⟨c, g1, g2⟩ := rR_inv _ _ hR
        unfold rv at g1
        simp only [Value.agg.injEq, Array.mk.injEq, List.cons.injEq, Value.string.injEq, Value.int.injEq, true_and, and_true] at g1
        simp only [Prod.mk.injEq] at g2
        refine ⟨⟨fun zd => ?_, e3, e4⟩, e2⟩
        show D1.atKey (kl p2 q2) zd = eR s2 v2
        rw [← e2, hat zd, g2.1, g1.1, g1.2])
      unfold pv rv at hen
      obtain ⟨A2, hA2⟩ : ∃ A, A = w2.alloc (.cells #[.string p2, .string q2] 52) := ⟨_, rfl⟩
      have S2 : Hid (A2.ranges Tryz.prog 52 rR b r n D1 (fun z => left z && !z.sameKey l2) cnt2 ∧ cnt2 < cnt ∧ Rg w t b r n (fun z => left z && !z.sameKey l2) cnt2 A2 ∧ A2.cell? ⟨w2.heap.size, 0, none⟩ = some (.string p2) ∧ A2.cell? ⟨w2.heap.size, 1, none⟩ = some (.string q2)) := Lib.hid (by
        have rg : A2.ranges Tryz.prog 52 rR b r n D1 (fun z => left z && !z.sameKey l2) cnt2 := by rw [hA2]; exact hrg2.alloc _
        have k1 : Kept (fun y => y = r) wr w2 := (grown_kept hg2).mono (fun y _ e => Option.some.inj e)
        have bA : Below w2.heap.size w2 A2 := by rw [hA2]; exact (Below.refl _ _).alloc (Nat.le_refl _) _
        have sz := S.out.1.k.size
        have rb := RB.out
        have t2 : w2.heap[t]? = some (.cells #[.map (some b)] 38 (0, 0)) := (k1.block t (lt_of_some S.out.1.t) (by omega)).trans S.out.1.t
        have m2 : L.HasM w2 := by
          obtain ⟨m, hc⟩ := S.out.1.hm
          refine ⟨m, (World.cell?_of_block (k1.block _ (block_lt_of_cell hc) (fun e => ?_))).trans hc⟩
          obtain ⟨es, clock, since, seen, c1, _, _, _, _, ho, _⟩ := R1.out
          have e' : wr.heap[0]? = some (.mapIter (some b) since seen c1) := by rw [← ho]; exact congrArg (fun x => wr.heap[x]?) e
          simp [World.cell?, e'] at hc
        refine ⟨rg, hlt, ⟨(bA.block t (lt_of_some t2)).trans t2, ⟨D1, rg⟩, m2.below bA, ?_⟩, by rw [hA2, World.cell?_alloc_new]; rfl, by rw [hA2, World.cell?_alloc_new]; rfl⟩
        exact (S.out.1.k.trans k1 (fun y hy e => by omega)).trans (Below.kept bA (fun _ => False)) (fun _ _ z => z.elim))
      have hA2' := hA2.symm
      clear hkey hl2 hR hat hrg2 hlt hg2 hs2 hA2
      by_cases he : p2 = p
      · subst he
        have RW : Hid (A2.drew.ranges Tryz.prog 52 rR b r n D1 (fun z => left z && !z.sameKey l2) cnt2) := Lib.hid S2.out.1
        obtain ⟨A3, cnt3, hdel, hrg3, hle3, htu3⟩ := World.ranges.drop (w := A2.drew) RW.out K Tryz.underlying36 KY.out 0
        unfold pv at hdel
        have f0 := S2.out.2.2.1.cell
        have f1 := S2.out.2.2.2.1
        have f2 := S2.out.2.2.2.2
        have d0 : A2.drew.cell? ⟨t, 0, none⟩ = some (.map (some b)) := f0
        have d1 : A2.drew.cell? ⟨w2.heap.size, 0, none⟩ = some (.string p2) := f1
        have d2 : A2.drew.cell? ⟨w2.heap.size, 1, none⟩ = some (.string q2) := f2
        have KP : Hid (∀ (g i : Nat) (y : Value), A2.drew.cell? ⟨g, i, none⟩ = some y → A3.cell? ⟨g, i, none⟩ = some y) := Lib.hid (fun g i y h => by
          have hne : g ≠ b := fun e => by
            obtain ⟨es, clock, hb, _⟩ := RW.out.owns
            rw [e] at h
            simp [World.cell?, hb] at h
          rw [World.cell?_of_block (htu3.grown.block g (block_lt_of_cell h) (fun e => hne (Option.some.inj e)))]
          exact h)
        have u0 := KP.out _ _ _ d0
        have u1 := KP.out _ _ _ d1
        have u2 := KP.out _ _ _ d2
        have S3 : Hid (A3.ranges Tryz.prog 52 rR b r n (D1.del l2) (fun z => left z && !z.sameKey l2) cnt3 ∧ cnt3 ≤ cnt2 ∧ Rg w t b r n (fun z => left z && !z.sameKey l2) cnt3 A3) := Lib.hid (by
          rw [Maps.strike_twice] at hrg3
          have gr := htu3.grown
          have kp0 : Kept (fun y => y = b) A2.drew A3 := (grown_kept gr).mono (fun y _ e => Option.some.inj e)
          have kp : Kept (fun y => y = b) A2 A3 := (Below.kept ((Below.refl _ A2).drew) _).trans kp0 (fun _ _ e => e)
          have rb := RB.out
          exact ⟨hrg3, hle3, ⟨(kp.block t (lt_of_some S2.out.2.2.1.t) (by omega)).trans S2.out.2.2.1.t, ⟨_, hrg3⟩, hm_kept S2.out.2.2.1.hm kp (by obtain ⟨es, c, hb, _⟩ := S2.out.1.owns; exact ⟨es, c, hb⟩), S2.out.2.2.1.k.trans kp (fun _ _ e => e)⟩⟩)
        have LT : Hid (Lv D p2 (D1.del l2) (fun z => left z && !z.sameKey l2) (k + 1)) := Lib.hid (by rw [IN.out.2]; exact Lv.take (x := ⟨p2, q2, s2, v2⟩) S.out.2.2.2 IN.out.1 (R1.out.owns.tidy K))
        clear hrg3 hle3 htu3
        go_wp2_with fail
        go_region_held3 (fun W : World => W.cell? ⟨t, 0, none⟩ = some (.map (some b)) ∧ W.cell? ⟨w2.heap.size, 0, none⟩ = some (.string p2) ∧ W.cell? ⟨w2.heap.size, 1, none⟩ = some (.string q2)) (first | exact ⟨by assumption, by assumption, by assumption⟩ | go_keep) (fail)
        all_goals
          go_wp2_with fail
          go_roundw
          case rel => exact ⟨_, cnt3, k + 1, _, by go_num, Lib.hid ⟨S3.out.2.2, by have := S.out.2.1; have := S2.out.2.1; have := S3.out.2.1; omega, S3.out.1, LT.out⟩⟩
          case measure => rw [S3.out.1.left_eq, R1.out.left_eq]; have := S2.out.2.1; have := S3.out.2.1; omega
      · have ge := teq_no he
        have LT : Hid (Lv D p D1 (fun z => left z && !z.sameKey l2) k) := Lib.hid (by rw [IN.out.2]; exact Lv.pass (x := ⟨p2, q2, s2, v2⟩) S.out.2.2.2 IN.out.1 he)
        clear he
        have f1 := S2.out.2.2.2.1
        have f2 := S2.out.2.2.2.2
        go_wp2_with fail
        go_roundw
        case rel => exact ⟨_, cnt2, k, D1, rfl, Lib.hid ⟨S2.out.2.2.1, by have := S.out.2.1; have := S2.out.2.1; omega, S2.out.1, LT.out⟩⟩
        case measure => rw [S2.out.1.left_eq, R1.out.left_eq]; exact S2.out.2.1
end Ac
end Go.Proofs.YthdofbjijpghfaaGreatDoor
