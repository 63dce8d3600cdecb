/-
  Rows.
-/
import Derived.Test.YtodfmnbfbndkhaaGreatDoorLeNm
import Derived.Test.YtodfmnbfbndkhaaGreatDoorLeT
namespace Go.Proofs.YtodfmnbfbndkhaaGreatDoor
open Go.RowKit
namespace Le
/-- The row u stands among the sums. -/
def InD (D : DataW Unit) (u : Us) : Prop := (∀ zd, D.atKey u.x.lit zd = eS u.v) ∧ u.x.Fit
/-- All that lies among the sums lies at a path. -/
def Vl (D : DataW Unit) : Prop := ∀ u, InD D u → NZ u.x.p
def Ur.mk (u : Us) (h : NZ u.x.p) : Ur := ⟨u, h⟩
theorem same_lit (x : Ky) : x.lit.sameKey x.lit = true := by simp [Ky.lit, Lit.sameKey]
/-- What has come. -/
structure Co (D : DataW Unit) (left : Lit → Bool) (ll : List Ur) : Prop where
  m : ∀ u : Us, (∃ y ∈ ll, y.1 = u) ↔ (InD D u ∧ left u.x.lit = false)
  d : ll.Pairwise fun a b => a.1.x.lit ≠ b.1.x.lit
variable {D : DataW Unit} {left : Lit → Bool} {ll : List Ur}
theorem Co.start : Co D (Maps.has D) [] := ⟨fun x => by
  refine ⟨fun h => by obtain ⟨_, h, _⟩ := h; simp at h, fun h => ?_⟩
  rw [Maps.has_true_of_atKey h.1.1] at h
  simp at h, List.Pairwise.nil⟩
theorem Co.step (h : Co D left ll) {u : Us} (hx : InD D u) (hl : left u.x.lit = true) (hv : NZ u.x.p) : Co D (fun z => left z && !z.sameKey u.x.lit) (ll ++ [Ur.mk u hv]) := ⟨fun y => by
  constructor
  · rintro ⟨z, hz, rfl⟩
    rw [List.mem_append, List.mem_singleton] at hz
    rcases hz with hz | rfl
    · have q := (h.m z.1).1 ⟨z, hz, rfl⟩
      exact ⟨q.1, by simp [q.2]⟩
    · exact ⟨hx, by show (left u.x.lit && !u.x.lit.sameKey u.x.lit) = false; rw [same_lit]; simp⟩
  · rintro ⟨a, c⟩
    by_cases e : y.x.lit = u.x.lit
    · refine ⟨Ur.mk u hv, by simp, ?_⟩
      have q := a.1 (.map [])
      rw [e, hx.1] at q
      have q1 := eS_inj q
      have r1 := lit_inj a.2 hx.2 e
      cases u; cases y
      simp only at q1 r1
      show Us.mk _ _ = _
      rw [q1, r1]
    · obtain ⟨z, hz, e2⟩ := (h.m y).2 ⟨a, by simpa [Maps.sameKey_ne e] using c⟩
      exact ⟨z, by simp [hz], e2⟩, by
  rw [List.pairwise_append]
  refine ⟨h.d, List.pairwise_singleton _ _, fun a ha b hb => ?_⟩
  rw [List.mem_singleton] at hb
  subst hb
  intro e
  have q := ((h.m a.1).1 ⟨a, ha, rfl⟩).2
  rw [e] at q
  exact absurd (hl.symm.trans q) (by decide)⟩
/-- The list that Rows tells. -/
structure Li (D : DataW Unit) (S : List Ur) : Prop where
  m : ∀ u : Us, (∃ y ∈ S, y.1 = u) ↔ InD D u
  d : S.Pairwise fun a b => a.1.x.lit ≠ b.1.x.lit
  r : RisR S
  n : S.length ≤ Maps.size D
theorem rng_below {w w' : World} {b r n cnt : Nat} (h : w.ranges Tryz.prog 79 rS b r n D left cnt) (hb : Below w.heap.size w w') : w'.ranges Tryz.prog 79 rS b r n D left cnt :=
  h.kept (row := none) ⟨hb.os, hb.tape, hb.output, hb.size, fun k hk _ => hb.block k hk⟩ (by simp) (by simp)
set_option maxHeartbeats 4000000 in
set_option maxRecDepth 100000 in
theorem rows_any (w : World) (t b n : Nat) (D : DataW Unit) (H : Ld w t b n D) (hn : n ≤ 2000000000000) (hv : Vl D) :
    Calls Tryz.prog 12 #[.pointer (some ⟨t, 0, none⟩)] w fun e w' => ∃ v S, e = .returned v ∧ Row kUse w' v S ∧ Li D S ∧ Below w.heap.size w w' := by
  have H' := Lib.hid H
  have SZ := Lib.hid (Nat.le_trans H.m.size_le hn)
  have VV := Lib.hid hv
  have c0 := H.cell
  clear H hn hv
  obtain ⟨r, hr⟩ : ∃ r, r = w.heap.size := ⟨_, rfl⟩
  go_enter Tryz.func12, Tryz.ntmps12
  go_wp2_with (at_range; refine wpList_range_own _ rfl _ 75 rfl 79 74 K Tryz.underlying75 rS b n D rfl H'.out.m ?_; intro w0 hrg0 hg0 hs0)
  go_frame
  rw [← hr] at hrg0 ⊢
  have S0 : Hid (w0.ranges Tryz.prog 79 rS b r n D (Maps.has D) (Maps.size D) ∧ Below w.heap.size w w0) := Lib.hid ⟨hrg0, (Below.refl _ w).grown hg0 (Nat.le_refl _) (fun k e => by cases e)⟩
  have RB : Hid (w.heap.size ≤ r) := Lib.hid (by rw [hr]; exact Nat.le_refl _)
  clear hrg0 hg0 hs0 hr
  go_loopw [3] (fun s wr => ∃ (left : Lit → Bool) (cnt : Nat) (ll : List Ur) (a : Option Addr) (c : Nat), s = .slice a ll.length c ∧ Hid (wr.ranges Tryz.prog 79 rS b r n D left cnt ∧ Below w.heap.size w wr ∧ ll.length + cnt ≤ Maps.size D ∧ OwnR kUse (r + 1) wr (.slice a ll.length c) ll ∧ Co D left ll)) (fun _ wr => wr.rangeLeft b r)
  case atStart => exact ⟨_, _, [], none, 0, rfl, Lib.hid ⟨S0.out.1, S0.out.2, by simp, OwnR.nil _ _ _, Co.start⟩⟩
  case round =>
    clear S0
    obtain ⟨left, cnt, ll, a, c, rfl, S⟩ := hrel
    have LN : Hid (ll.length ≤ 2000000000000) := Lib.hid (by have := S.out.2.2.1; have := SZ.out; omega)
    go_wp2_with (at_next; refine wpList_next_ranges _ rfl _ rfl 79 K rS Ky.val (fun x : Int => .int .i64 x) (fun key l h => (key_inv key l h).imp fun _ q => q.1) (fun v y h => (rS_inv v y h).imp fun _ q => q.1) b r n D left cnt rfl S.out.1 ?_ ?_)
    · intro h0 hl
      have SO : Hid (Calls Tryz.prog 31 #[.slice a ll.length c, .func (.func 32) #[] #[]] wr fun e w' => e = .returned (.tuple #[]) ∧ Hid (∃ T, Row kUse w' (.slice a ll.length c) T ∧ Li D T ∧ Below w.heap.size w w')) := Lib.hid (by
        have CM : ∀ T : List Ur, T.Perm ll → ∀ x : Us, (∃ y ∈ T, y.1 = x) ↔ InD D x := fun T hp x => by
          have q := S.out.2.2.2.2.m x
          rw [hl] at q
          simp only [and_true] at q
          rw [← q]
          exact ⟨fun ⟨y, h1, h2⟩ => ⟨y, hp.mem_iff.1 h1, h2⟩, fun ⟨y, h1, h2⟩ => ⟨y, hp.mem_iff.2 h1, h2⟩⟩
        have CD : ∀ T : List Ur, T.Perm ll → T.Pairwise fun a b => a.1.x.lit ≠ b.1.x.lit := fun T hp => hp.symm.pairwise S.out.2.2.2.2.d (fun h e => h e.symm)
        have CN : ∀ T : List Ur, T.Perm ll → T.length ≤ Maps.size D := fun T hp => by rw [hp.length_eq]; have := S.out.2.2.1; omega
        have OW := S.out.2.2.2.1
        obtain ⟨_, ⟨hv, hn⟩ | ⟨g, cap, cur, hv, _⟩⟩ := id OW
        · simp only [Value.slice.injEq] at hv
          obtain ⟨rfl, hn2, rfl⟩ := hv
          have e : ll = [] := List.length_eq_zero_iff.1 hn2
          have q := AnyF.slices_SortFunc_none Tryz.laysSlF06_f31 none 0 (.func (.func 32) #[] #[]) wr
          rw [hn2]
          refine q.mono ?_
          rintro e w' ⟨rfl, rfl⟩
          exact ⟨rfl, Lib.hid ⟨[], Row.nil _, ⟨CM [] (by rw [e]), List.Pairwise.nil, List.Pairwise.nil, by simp⟩, S.out.2.1⟩⟩
        · simp only [Value.slice.injEq] at hv
          obtain ⟨rfl, _, rfl⟩ := hv
          refine (sort_any S.out.2.1 (OW.mono (by have := RB.out; omega)) (by have := LN.out; omega)).mono ?_
          rintro e w' ⟨rfl, T, hp, hr, ho, hg⟩
          have lo := (OW.lt g rfl).1
          exact ⟨rfl, Lib.hid ⟨T, ho, ⟨CM T hp, CD T hp, hr, CN T hp⟩, S.out.2.1.trans ((Below.refl _ wr).grown hg S.out.2.1.size (fun k e => by cases e; have := RB.out; omega))⟩⟩)
      go_wp2_with fail
      refine SO.out.mono ?_
      rintro e w5 ⟨rfl, F⟩
      clear SO
      go_wp2_with fail
      go_ret
      obtain ⟨T, f1, f2, f3⟩ := F.out
      exact ⟨_, T, rfl, f1, f2, f3⟩
    · rintro ⟨p2, k2, a2, r2⟩ v2 l2 yd yp w2 cnt2 hkey hl2 hR hat hrg2 hlt hg2 hs2 hen
      have IN : Hid (InD D ⟨⟨p2, k2, a2, r2⟩, v2⟩ ∧ l2 = Ky.lit ⟨p2, k2, a2, r2⟩ ∧ left (Ky.lit ⟨p2, k2, a2, r2⟩) = true) := Lib.hid (by
        obtain ⟨x, e1, e2, e3⟩ := key_inv _ _ hkey
        have ex : x = ⟨p2, k2, a2, r2⟩ := by
          obtain ⟨q1, q2, q3, q4⟩ := x
          unfold Ky.val at e1
          simp only [Value.agg.injEq, Array.mk.injEq, List.cons.injEq, Value.string.injEq, Value.int.injEq, true_and, and_true] at e1
          obtain ⟨f1, f2, f3, f4⟩ := e1
          rw [f1, f2, f3, f4]
        subst ex
        obtain ⟨c, g1, g2⟩ := rS_inv _ _ hR
        simp only [Value.int.injEq, true_and] at g1
        simp only [Prod.mk.injEq] at g2
        refine ⟨⟨fun zd => ?_, e3⟩, e2, by rw [← e2]; exact hl2⟩
        show D.atKey (Ky.lit ⟨p2, k2, a2, r2⟩) zd = eS v2
        rw [← e2, hat zd, g2.1, g1])
      unfold Ky.val at hen
      simp only at hen
      obtain ⟨A2, hA2⟩ : ∃ A, A = w2.alloc (.cells #[.string p2, .int .i64 k2, .int .i64 a2, .string r2] 79) := ⟨_, rfl⟩
      have XX : Hid (A2.ranges Tryz.prog 79 rS b r n D (fun z => left z && !z.sameKey (Ky.lit ⟨p2, k2, a2, r2⟩)) cnt2 ∧ cnt2 < cnt ∧ Below w.heap.size w A2 ∧ OwnR kUse (r + 1) A2 (.slice a ll.length c) ll) := Lib.hid (by
        have k2 : Kept (fun y => y = r) wr w2 := (grown_kept hg2).mono (fun y _ e => Option.some.inj e)
        have b2 : Below w.heap.size w w2 := S.out.2.1.trans ((Below.refl _ wr).grown hg2 S.out.2.1.size (fun k e => by cases e; exact RB.out))
        have bA : Below w2.heap.size w2 A2 := by rw [hA2]; exact (Below.refl _ _).alloc (Nat.le_refl _) _
        refine ⟨?_, hlt, b2.trans (bA.mono b2.size), (S.out.2.2.2.1.kept k2 (fun k e q => by have := (S.out.2.2.2.1.lt k e).1; omega)).below bA⟩
        rw [hA2, ← IN.out.2.1]
        exact hrg2.alloc _)
      have c1 : A2.cell? ⟨w2.heap.size, 0, none⟩ = some (.string p2) := by rw [hA2, World.cell?_alloc_new]; rfl
      have c2 : A2.cell? ⟨w2.heap.size, 1, none⟩ = some (.int .i64 k2) := by rw [hA2, World.cell?_alloc_new]; rfl
      have c3 : A2.cell? ⟨w2.heap.size, 2, none⟩ = some (.int .i64 a2) := by rw [hA2, World.cell?_alloc_new]; rfl
      have c4 : A2.cell? ⟨w2.heap.size, 3, none⟩ = some (.string r2) := by rw [hA2, World.cell?_alloc_new]; rfl
      have AL : Hid (r + 1 ≤ A2.heap.size) := Lib.hid (by have := XX.out.1.lt; omega)
      clear hkey hl2 hR hat hrg2 hlt hg2 hs2
      unfold Ky.val
      simp only
      have hA2' := hA2.symm
      clear hA2
      have O := Lib.hid XX.out.2.2.2
      have LL : Hid ((ll.length + 1) * kUse.b ≤ 140737488355328) := Lib.hid (by have := LN.out; show (ll.length + 1) * 56 ≤ _; omega)
      go_wp2_with (at_builtin; refine app_rowB okUse (gg := A2.heap.size) rfl _ _ rfl rfl O.out AL.out (Ur.mk ⟨⟨p2, k2, a2, r2⟩, v2⟩ (VV.out _ IN.out.1)) ?hgg rfl rfl LL.out ?_)
      case hgg => simp
      intro v' w4 h1 h2
      obtain ⟨a', c', rfl⟩ := h1.slice
      have X4 : Hid (w4.ranges Tryz.prog 79 rS b r n D (fun z => left z && !z.sameKey (Ky.lit ⟨p2, k2, a2, r2⟩)) cnt2 ∧ Below w.heap.size w w4 ∧ OwnR kUse (r + 1) w4 (.slice a' (ll ++ [Ur.mk ⟨⟨p2, k2, a2, r2⟩, v2⟩ (VV.out _ IN.out.1)]).length c') (ll ++ [Ur.mk ⟨⟨p2, k2, a2, r2⟩, v2⟩ (VV.out _ IN.out.1)])) := Lib.hid (by
        have hne : ∀ k, (Value.slice a ll.length c).ownBlock = some k → r + 1 ≤ k := fun k e => (O.out.lt k e).1
        refine ⟨XX.out.1.kept h2 (fun e => ?_) (fun e => ?_), XX.out.2.2.1.trans ((Below.refl _ A2).grown h2 XX.out.2.2.1.size (fun k e => by have := hne k e; have := RB.out; omega)), h1⟩
        · have := hne b e.symm; have := H'.out.m.lt; have := RB.out; omega
        · have := hne r e.symm; omega)
      clear h1 h2 O AL
      go_wp2_with fail
      go_roundw
      case rel => exact ⟨_, cnt2, _, a', c', rfl, Lib.hid ⟨X4.out.1, X4.out.2.1, by have := S.out.2.2.1; have := XX.out.2.1; simp; omega, X4.out.2.2, S.out.2.2.2.2.step IN.out.1 IN.out.2.2 _⟩⟩
      case measure => rw [X4.out.1.left_eq, S.out.1.left_eq]; exact XX.out.2.1
end Le
end Go.Proofs.YtodfmnbfbndkhaaGreatDoor
