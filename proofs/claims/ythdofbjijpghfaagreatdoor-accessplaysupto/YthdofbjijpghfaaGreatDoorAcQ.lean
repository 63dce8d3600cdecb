/-
  List.
-/
import Derived.Test.YthdofbjijpghfaaGreatDoorAcX
import Derived.Test.YthdofbjijpghfaaGreatDoorMgD
namespace Go.Proofs.YthdofbjijpghfaaGreatDoor
open Go.RowKit
namespace Ac
/-- All that lies in the table lies at a path. -/
def Vl (D : DataW Unit) : Prop := ∀ x, InD D x → (L.splitO x.p).isSome = true
def Bv.mk (x : Bd) (hv : (L.splitO x.p).isSome = true) : Bv := ⟨x, hv⟩
/-- What has come. -/
structure Co (D : DataW Unit) (left : Lit → Bool) (ll : List Bv) : Prop where
  m : ∀ x : Bd, (∃ y ∈ ll, y.1 = x) ↔ (InD D x ∧ left (kl x.p x.n) = false)
  d : ll.Pairwise fun a b => kl a.1.p a.1.n ≠ kl b.1.p b.1.n
variable {D : DataW Unit} {left : Lit → Bool} {ll : List Bv}
theorem Co.start : Co D (Maps.has D) [] := ⟨fun x => by
  refine ⟨fun h => by obtain ⟨_, h, _⟩ := h; simp at h, fun h => ?_⟩
  rw [Maps.has_true_of_atKey h.1.1] at h
  simp at h, List.Pairwise.nil⟩
theorem Co.step (h : Co D left ll) {x : Bd} (hx : InD D x) (hl : left (kl x.p x.n) = true) (hv : (L.splitO x.p).isSome = true) : Co D (fun z => left z && !z.sameKey (kl x.p x.n)) (ll ++ [Bv.mk x hv]) := ⟨fun y => by
  constructor
  · rintro ⟨z, hz, rfl⟩
    rw [List.mem_append, List.mem_singleton] at hz
    rcases hz with hz | rfl
    · have q := (h.m z.1).1 ⟨z, hz, rfl⟩
      exact ⟨q.1, by simp [q.2]⟩
    · exact ⟨hx, by show (left (kl x.p x.n) && !(kl x.p x.n).sameKey (kl x.p x.n)) = false; rw [same_kl]; simp⟩
  · rintro ⟨a, c⟩
    by_cases e : kl y.p y.n = kl x.p x.n
    · refine ⟨Bv.mk x hv, by simp, ?_⟩
      have q := a.1 (.map [])
      rw [e, hx.1] at q
      obtain ⟨q1, q2⟩ := eR_inj q
      obtain ⟨r1, r2⟩ := kl_inj e a.2.1 a.2.2 hx.2.1 hx.2.2
      cases x; cases y
      simp only at q1 q2 r1 r2
      show Bd.mk _ _ _ _ = _
      rw [q1, q2, r1, r2]
    · obtain ⟨z, hz, e2⟩ := (h.m y).2 ⟨a, by simpa [Maps.sameKey_ne e] using c⟩
      exact ⟨z, by simp [hz], e2⟩, by
  rw [List.pairwise_append]
  refine ⟨h.d, List.pairwise_singleton _ _, fun a ha b hb => ?_⟩
  rw [List.mem_singleton] at hb
  subst hb
  intro e
  have q := ((h.m a.1).1 ⟨a, ha, rfl⟩).2
  rw [e] at q
  exact absurd (hl.symm.trans q) (by decide)⟩
/-- The list that List tells. -/
structure Li (D : DataW Unit) (S : List Bv) : Prop where
  m : ∀ x : Bd, (∃ y ∈ S, y.1 = x) ↔ InD D x
  d : S.Pairwise fun a b => kl a.1.p a.1.n ≠ kl b.1.p b.1.n
  r : RisV S
  n : S.length ≤ Maps.size D
theorem rng_below {w w' : World} {b r n cnt : Nat} (h : w.ranges Tryz.prog 52 rR b r n D left cnt) (hb : Below w.heap.size w w') : w'.ranges Tryz.prog 52 rR b r n D left cnt :=
  h.kept (row := none) ⟨hb.os, hb.tape, hb.output, hb.size, fun k hk _ => hb.block k hk⟩ (by simp) (by simp)
set_option maxHeartbeats 4000000 in
set_option maxRecDepth 100000 in
theorem list_any (w : World) (t b n : Nat) (D : DataW Unit) (H : Ta w t b n D) (hn : n ≤ 1000000) (hv : Vl D) :
    Calls Tryz.prog 8 #[.pointer (some ⟨t, 0, none⟩)] w fun e w' => ∃ v S, e = .returned v ∧ Row kBv w' v S ∧ Li D S ∧ Below w.heap.size w w' := by
  have H' := Lib.hid H
  have SZ := Lib.hid (Nat.le_trans H.tb.m.size_le hn)
  have VV := Lib.hid hv
  have c0 := H.tb.cell
  clear H hn hv
  obtain ⟨r, hr⟩ : ∃ r, r = w.heap.size := ⟨_, rfl⟩
  go_enter Tryz.func8, Tryz.ntmps8
  go_wp2_with (at_range; refine wpList_range_own _ rfl _ 36 rfl 52 54 K Tryz.underlying36 rR b n D rfl H'.out.tb.m ?_; intro w0 hrg0 hg0 hs0)
  go_frame
  rw [← hr] at hrg0 ⊢
  have S0 : Hid (w0.ranges Tryz.prog 52 rR b r n D (Maps.has D) (Maps.size D) ∧ Below w.heap.size w w0) := Lib.hid ⟨hrg0, (Below.refl _ w).grown hg0 (Nat.le_refl _) (fun k e => by cases e)⟩
  have RB : Hid (w.heap.size ≤ r) := Lib.hid (by rw [hr]; exact Nat.le_refl _)
  clear hrg0 hg0 hs0 hr
  go_loopw [3] (fun s wr => ∃ (left : Lit → Bool) (cnt : Nat) (ll : List Bv) (a : Option Addr) (c : Nat), s = .slice a ll.length c ∧ Hid (wr.ranges Tryz.prog 52 rR b r n D left cnt ∧ Below w.heap.size w wr ∧ ll.length + cnt ≤ Maps.size D ∧ OwnR kBv (r + 1) wr (.slice a ll.length c) ll ∧ Co D left ll)) (fun _ wr => wr.rangeLeft b r)
  case atStart => exact ⟨_, _, [], none, 0, rfl, Lib.hid ⟨S0.out.1, S0.out.2, by simp, OwnR.nil _ _ _, Co.start⟩⟩
  case round =>
    clear S0
    obtain ⟨left, cnt, ll, a, c, rfl, S⟩ := hrel
    have LN : Hid (ll.length < 100000000) := Lib.hid (by have := S.out.2.2.1; have := SZ.out; omega)
    go_wp2_with (at_next; refine wpList_next_ranges _ rfl _ rfl 52 K rR (fun x : ByteArray × ByteArray => pv x.1 x.2) (fun x : ByteArray × Int => rv x.1 x.2) (fun key l h => (key_inv key l h).imp fun _ q => q.1) (fun v y h => (rR_inv v y h).imp fun _ q => q.1) b r n D left cnt rfl S.out.1 ?_ ?_)
    · intro h0 hl
      have SO : Hid (Calls Tryz.prog 24 #[.slice a ll.length c, .func (.func 25) #[] #[]] wr fun e w' => e = .returned (.tuple #[]) ∧ Hid (∃ T, Row kBv w' (.slice a ll.length c) T ∧ Li D T ∧ Below w.heap.size w w')) := Lib.hid (by
        have CM : ∀ T : List Bv, T.Perm ll → ∀ x : Bd, (∃ y ∈ T, y.1 = x) ↔ InD D x := fun T hp x => by
          have q := S.out.2.2.2.2.m x
          rw [hl] at q
          simp only [and_true] at q
          rw [← q]
          exact ⟨fun ⟨y, h1, h2⟩ => ⟨y, hp.mem_iff.1 h1, h2⟩, fun ⟨y, h1, h2⟩ => ⟨y, hp.mem_iff.2 h1, h2⟩⟩
        have CD : ∀ T : List Bv, T.Perm ll → T.Pairwise fun a b => kl a.1.p a.1.n ≠ kl b.1.p b.1.n := fun T hp => hp.symm.pairwise S.out.2.2.2.2.d (fun h e => h e.symm)
        have CN : ∀ T : List Bv, T.Perm ll → T.length ≤ Maps.size D := fun T hp => by rw [hp.length_eq]; have := S.out.2.2.1; omega
        have OW := S.out.2.2.2.1
        obtain ⟨_, ⟨hv, hn⟩ | ⟨g, cap, cur, hv, _⟩⟩ := id OW
        · simp only [Value.slice.injEq] at hv
          obtain ⟨rfl, hn2, rfl⟩ := hv
          have e : ll = [] := List.length_eq_zero_iff.1 hn2
          have q := AnyF.slices_SortFunc_none Tryz.laysSlF06_f24 none 0 (.func (.func 25) #[] #[]) wr
          rw [hn2]
          refine q.mono ?_
          rintro e w' ⟨rfl, rfl⟩
          exact ⟨rfl, Lib.hid ⟨[], Row.nil _, ⟨CM [] (by rw [e]), List.Pairwise.nil, List.Pairwise.nil, by simp⟩, S.out.2.1⟩⟩
        · simp only [Value.slice.injEq] at hv
          obtain ⟨rfl, _, rfl⟩ := hv
          refine (sort_any H'.out.hm S.out.2.1 (OW.mono (by have := RB.out; omega)) (by have := LN.out; omega)).mono ?_
          rintro e w' ⟨rfl, T, hp, hr, ho, hg⟩
          have lo := (OW.lt g rfl).1
          exact ⟨rfl, Lib.hid ⟨T, ho, ⟨CM T hp, CD T hp, hr, CN T hp⟩, S.out.2.1.trans ((Below.refl _ wr).grown hg S.out.2.1.size (fun k e => by cases e; have := RB.out; omega))⟩⟩)
      go_wp2_with fail
      refine SO.out.mono ?_
      rintro e w5 ⟨rfl, F⟩
      clear SO
      go_wp2_with fail
      go_ret
      obtain ⟨T, f1, f2, f3⟩ := F.out
      exact ⟨_, T, rfl, f1, f2, f3⟩
    · rintro p2 q2 s2 v2 l2 yd yp w2 cnt2 hkey hl2 hR hat hrg2 hlt hg2 hs2 hen
      have IN : Hid (InD D ⟨p2, q2, s2, v2⟩ ∧ l2 = kl p2 q2 ∧ left (kl p2 q2) = true) := Lib.hid (by
        obtain ⟨⟨a, b'⟩, e1, e2, e3, e4⟩ := key_inv _ _ hkey
        unfold pv at e1
        simp only [Value.agg.injEq, Array.mk.injEq, List.cons.injEq, Value.string.injEq, and_true] at e1
        obtain ⟨f1, f2⟩ := e1
        subst f1 f2
        obtain ⟨c, g1, g2⟩ := rR_inv _ _ hR
        unfold rv at g1
        simp only [Value.agg.injEq, Array.mk.injEq, List.cons.injEq, Value.string.injEq, Value.int.injEq, true_and, and_true] at g1
        simp only [Prod.mk.injEq] at g2
        refine ⟨⟨fun zd => ?_, e3, e4⟩, e2, by rw [← e2]; exact hl2⟩
        show D.atKey (kl p2 q2) zd = eR s2 v2
        rw [← e2, hat zd, g2.1, g1.1, g1.2])
      unfold pv rv at hen
      obtain ⟨A2, hA2⟩ : ∃ A, A = (w2.alloc (.cells #[.string p2, .string q2] 52)).alloc (.cells #[.string s2, .int .i64 v2] 54) := ⟨_, rfl⟩
      have XX : Hid (A2.ranges Tryz.prog 52 rR b r n D (fun z => left z && !z.sameKey (kl p2 q2)) cnt2 ∧ cnt2 < cnt ∧ Below w.heap.size w A2 ∧ OwnR kBv (r + 1) A2 (.slice a ll.length c) ll) := Lib.hid (by
        have k2 : Kept (fun y => y = r) wr w2 := (grown_kept hg2).mono (fun y _ e => Option.some.inj e)
        have b2 : Below w.heap.size w w2 := S.out.2.1.trans ((Below.refl _ wr).grown hg2 S.out.2.1.size (fun k e => by cases e; exact RB.out))
        have bA : Below w2.heap.size w2 A2 := by rw [hA2]; exact ((Below.refl _ _).alloc (Nat.le_refl _) _).alloc (by simp) _
        refine ⟨?_, hlt, b2.trans (bA.mono b2.size), (S.out.2.2.2.1.kept k2 (fun k e q => by have := (S.out.2.2.2.1.lt k e).1; omega)).below bA⟩
        rw [hA2, ← IN.out.2.1]
        exact (hrg2.alloc _).alloc _)
      clear hkey hl2 hR hat hrg2 hlt hg2 hs2
      go_wp2_with fail
      rw [← hA2]
      clear hA2 hen
      refine (with_any p2 q2 s2 v2 A2).mono ?_
      rintro e w3 ⟨rfl, hb⟩
      have X3 : Hid (w3.ranges Tryz.prog 52 rR b r n D (fun z => left z && !z.sameKey (kl p2 q2)) cnt2 ∧ Below w.heap.size w w3 ∧ OwnR kBv (r + 1) w3 (.slice a ll.length c) ll ∧ r + 1 ≤ w3.heap.size) := Lib.hid (by
        have b3 : Below w.heap.size w w3 := XX.out.2.2.1.trans (hb.mono XX.out.2.2.1.size)
        have g3 : w3.ranges Tryz.prog 52 rR b r n D (fun z => left z && !z.sameKey (kl p2 q2)) cnt2 := rng_below XX.out.1 hb
        exact ⟨g3, b3, XX.out.2.2.2.below hb, g3.lt⟩)
      have O := Lib.hid X3.out.2.2.1
      have B := Lib.hid X3.out.2.2.2
      clear hb
      unfold Bd.val
      simp only
      go_wp2_with (at_builtin; refine app_row okBv (gg := w3.heap.size) rfl _ _ rfl rfl O.out B.out (Bv.mk ⟨p2, q2, s2, v2⟩ (VV.out _ IN.out.1)) ?hgg rfl rfl LN.out ?_)
      case hgg => simp
      intro v' w4 h1 h2
      obtain ⟨a', c', rfl⟩ := h1.slice
      have X4 : Hid (w4.ranges Tryz.prog 52 rR b r n D (fun z => left z && !z.sameKey (kl p2 q2)) cnt2 ∧ Below w.heap.size w w4 ∧ OwnR kBv (r + 1) w4 (.slice a' (ll ++ [Bv.mk ⟨p2, q2, s2, v2⟩ (VV.out _ IN.out.1)]).length c') (ll ++ [Bv.mk ⟨p2, q2, s2, v2⟩ (VV.out _ IN.out.1)])) := Lib.hid (by
        have hne : ∀ k, (Value.slice a ll.length c).ownBlock = some k → r + 1 ≤ k := fun k e => (O.out.lt k e).1
        refine ⟨X3.out.1.kept h2 (fun e => ?_) (fun e => ?_), X3.out.2.1.trans ((Below.refl _ w3).grown h2 X3.out.2.1.size (fun k e => by have := hne k e; have := RB.out; omega)), h1⟩
        · have := hne b e.symm; have := H'.out.tb.m.lt; have := RB.out; omega
        · have := hne r e.symm; omega)
      clear h1 h2 O B
      go_wp2_with fail
      go_roundw
      case rel => exact ⟨_, cnt2, _, a', c', rfl, Lib.hid ⟨X4.out.1, X4.out.2.1, by have := S.out.2.2.1; have := XX.out.2.1; simp; omega, X4.out.2.2, S.out.2.2.2.2.step IN.out.1 IN.out.2.2 _⟩⟩
      case measure => rw [X4.out.1.left_eq, S.out.1.left_eq]; exact XX.out.2.1
end Ac
end Go.Proofs.YthdofbjijpghfaaGreatDoor
