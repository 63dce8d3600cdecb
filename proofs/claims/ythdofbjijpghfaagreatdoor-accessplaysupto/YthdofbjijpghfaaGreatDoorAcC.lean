/-
  Drop exactly; the table as a list of what lies at one path, and beside it.
-/
import Derived.Test.YthdofbjijpghfaaGreatDoorAcA
namespace Go.Proofs.YthdofbjijpghfaaGreatDoor
open Go.RowKit
namespace Ac
/-- What Drop answers and makes. -/
def Dr (D : DataW Unit) (p q : ByteArray) (r : Int) (D' : DataW Unit) : Prop :=
  (r = 0 ∧ L.splitE p = 0 ∧ Maps.has D (kl p q) = true ∧ D' = D.del (kl p q)) ∨ (r = 191 ∧ L.splitE p = 0 ∧ Maps.has D (kl p q) = false ∧ D' = D) ∨ (L.splitE p ≠ 0 ∧ r = L.splitE p ∧ D' = D)
variable {w w' : World} {t b n : Nat} {D D' : DataW Unit}
set_option maxHeartbeats 4000000 in
set_option maxRecDepth 100000 in
theorem drop_ex (p q : ByteArray) (w : World) (t b n : Nat) (D : DataW Unit) (H : Ta w t b n D) (hp : p.size ≤ maxLen) (hq : q.size ≤ maxLen) :
    Calls Tryz.prog 12 #[.pointer (some ⟨t, 0, none⟩), .string p, .string q] w fun e w' => ∃ r D', e = .returned (.int .i64 r) ∧ Ta w' t b n D' ∧ Kept (fun y => y = b) w w' ∧ Dr D p q r D' := by
  have HH := Lib.hid H
  obtain ⟨c, hc⟩ : ∃ c, c = L.splitE p := ⟨_, rfl⟩
  have CC := Lib.hid hc
  have PA := Lib.hid (L.path_any p w H.hm)
  rw [← hc] at PA
  have hcs : c = 0 ∨ c ≠ 0 := by omega
  have KY := Lib.hid (key_mk p q hp hq)
  have TX : Hid (∀ W, Below w.heap.size w W → Ta W t b n D) := Lib.hid fun W h => HH.out.below h
  have HA : Hid (∀ W, Ta W t b n D → Calls Tryz.prog 27 #[.pointer (some ⟨t, 0, none⟩), .string p, .string q] W fun e w' => e = .returned (.bool (Maps.has D (kl p q))) ∧ Below W.heap.size W w') := Lib.hid fun W h => has_any p q W t b n D h.tb hp hq
  clear hc H hp hq
  go_enter Tryz.func12, Tryz.ntmps12
  go_wp2_with fail
  refine PA.out.mono ?_
  rintro e w1 ⟨rfl, hb⟩
  have B1 := Lib.hid hb
  clear hb
  rcases hcs with h0 | h0
  · subst h0
    go_wp2_with fail
    refine (HA.out w1 (TX.out w1 B1.out)).mono ?_
    rintro e w2 ⟨rfl, hb⟩
    have B2 := Lib.hid (B1.out.trans (hb.mono B1.out.size))
    clear hb
    cases hh : Maps.has D (kl p q) with
    | false =>
      go_wp2_with fail
      go_ret
      exact ⟨191, D, rfl, TX.out w2 B2.out, Below.kept B2.out _, Or.inr (Or.inl ⟨rfl, CC.out.symm, hh, rfl⟩)⟩
    | true =>
      have T2 := Lib.hid (TX.out w2 B2.out)
      have e0 := T2.out.tb.cell
      go_wp2_with (at_delete; refine wpList_delete_own _ rfl _ _ 36 52 rfl 54 K Tryz.underlying36 rR b n D rfl T2.out.tb.m _ _ rfl KY.out ?_; intro w3 hown3 hturn3; have W3 := Lib.hid (And.intro hown3 hturn3); clear hown3 hturn3)
      go_ret
      have gr := W3.out.2.grown
      have kp : Kept (fun y => y = b) w2 w3 := (grown_kept gr).mono (fun y _ e => Option.some.inj e)
      refine ⟨0, _, rfl, ⟨⟨(gr.block t (lt_of_some T2.out.tb.t) (fun e => T2.out.tb.ne (Option.some.inj e))).trans T2.out.tb.t, W3.out.1⟩, hm_kept T2.out.hm kp T2.out.tb.map⟩, (Below.kept B2.out _).trans kp (fun _ _ e => e), Or.inl ⟨rfl, CC.out.symm, hh, rfl⟩⟩
  · have g0 : ((c : Int) != 0) = true := by rw [bne_iff_ne]; omega
    have h0' : ¬ (c : Int) = 0 := by omega
    go_wp2_with fail
    go_ret
    exact ⟨_, D, rfl, TX.out w1 B1.out, Below.kept B1.out _, Or.inr (Or.inr ⟨by rw [← CC.out]; exact h0, by rw [← CC.out], rfl⟩)⟩
theorem atKey_has {D : DataW Unit} {k : Lit} (h : Maps.has D k = true) (z z' : DataW Unit) : D.atKey k z = D.atKey k z' := by
  cases D <;> simp only [Maps.has] at h <;> try (exact absurd h (by decide))
  rename_i es
  simp only [DataW.atKey]
  cases hf : es.find? (fun p => p.1.sameKey k) with
  | some p => rfl
  | none =>
    rw [List.find?_eq_none] at hf
    obtain ⟨p, hp, hq⟩ := List.any_eq_true.1 h
    exact absurd hq (hf p hp)
/-- A key is there just if a binding stands there. -/
theorem has_iff (H : Ta w t b n D) {p q : ByteArray} (hp : p.size ≤ maxLen) (hq : q.size ≤ maxLen) : Maps.has D (kl p q) = true ↔ ∃ s v, InD D ⟨p, q, s, v⟩ := by
  constructor
  · intro h
    obtain ⟨v, ps, _, hr⟩ := H.tb.m.lookup K Tryz.underlying36 (zero_right _) (rR_mk ⟨#[]⟩ 0) (key_mk p q hp hq)
    obtain ⟨c, _, e⟩ := rR_inv _ _ hr
    simp only [Prod.mk.injEq] at e
    exact ⟨c.1, c.2, fun zd => by show D.atKey (kl p q) zd = eR c.1 c.2; rw [← e.1]; exact atKey_has h _ _, hp, hq⟩
  · rintro ⟨s, v, h⟩
    exact Maps.has_true_of_atKey (fun z => h.1 z)
abbrev Ent := ByteArray × ByteArray × Int
/-- The bindings at P are N, beside them M. -/
structure Tt (D : DataW Unit) (P : ByteArray) (N : List Ent) (M : List Bd) : Prop where
  m : ∀ x, InD D x ↔ (x.p = P ∧ (x.n, x.s, x.v) ∈ N) ∨ x ∈ M
  d : (N.map Prod.fst).Nodup
  o : ∀ x ∈ M, x.p ≠ P
  k : M.Pairwise fun a b => kl a.p a.n ≠ kl b.p b.n
def ofE (P : ByteArray) (e : Ent) : Bd := ⟨P, e.1, e.2.1, e.2.2⟩
variable {P : ByteArray} {N : List Ent} {M : List Bd}
theorem Tt.mem (h : Tt D P N M) : ∀ x, InD D x ↔ x ∈ N.map (ofE P) ++ M := fun x => by
  rw [h.m x, List.mem_append, List.mem_map]
  refine or_congr ⟨fun ⟨a, b⟩ => ⟨_, b, ?_⟩, fun ⟨e, he, hx⟩ => ?_⟩ Iff.rfl
  · cases x; simp only at a; subst a; rfl
  · subst hx; exact ⟨rfl, he⟩
theorem Tt.nodup (h : Tt D P N M) : (N.map (ofE P) ++ M).Nodup := by
  rw [List.nodup_append]
  refine ⟨?_, nodup_kl h.k, fun a ha b hb e => ?_⟩
  · have q := h.d
    unfold List.Nodup at q ⊢
    rw [List.pairwise_map] at q ⊢
    exact q.imp (fun h e => h (by have := congrArg Bd.n e; exact this))
  · subst e
    obtain ⟨x, _, hx⟩ := List.mem_map.1 ha
    exact h.o a hb (by rw [← hx]; rfl)
theorem Tt.cn (h : Tt D P N M) {k : Nat} (hc : Cn D P k) : k = N.length := by
  obtain ⟨ll, d, m, rfl⟩ := hc
  have e : ∀ x, x ∈ ll ↔ x ∈ N.map (ofE P) := fun x => by
    rw [m x, h.m x, List.mem_map]
    constructor
    · rintro ⟨⟨_, b⟩ | b, c⟩
      · exact ⟨_, b, by cases x; simp only at c; subst c; rfl⟩
      · exact absurd c (h.o x b)
    · rintro ⟨e, he, rfl⟩
      exact ⟨Or.inl ⟨rfl, he⟩, rfl⟩
  have n1 := (List.nodup_append.1 h.nodup).1
  have := Nat.le_antisymm (len_le (nodup_kl d) (fun x hx => (e x).1 hx)) (len_le n1 (fun x hx => (e x).2 hx))
  rw [this, List.length_map]
theorem Tt.has (h : Tt D P N M) (H : Ta w t b n D) (hP : P.size ≤ maxLen) {q : ByteArray} (hq : q.size ≤ maxLen) : Maps.has D (kl P q) = N.any (fun y => decide (y.1 = q)) := by
  rw [Bool.eq_iff_iff, has_iff H hP hq, List.any_eq_true]
  constructor
  · rintro ⟨s, v, hx⟩
    rcases (h.m _).1 hx with ⟨_, q⟩ | q
    · exact ⟨_, q, decide_eq_true rfl⟩
    · exact absurd rfl (h.o _ q)
  · rintro ⟨⟨a, s, v⟩, he, hd⟩
    have e := of_decide_eq_true hd
    simp only at e
    subst e
    exact ⟨s, v, (h.m _).2 (Or.inl ⟨rfl, he⟩)⟩
def insE (N : List Ent) (e : Ent) : List Ent := e :: N.filter (fun y => decide (y.1 ≠ e.1))
theorem Tt.put (h : Tt D P N M) (hD : Maps.IsMap D) (hP : P.size ≤ maxLen) {e : Ent} (hq : e.1.size ≤ maxLen) : Tt (D.put (kl P e.1) (eR e.2.1 e.2.2)) P (insE N e) M := by
  refine ⟨fun x => ?_, ?_, h.o, h.k⟩
  · refine Iff.trans (InD.put (x := x) (y := ofE P e) hD hP hq) ?_
    rw [h.m x]
    unfold insE
    rw [List.mem_cons, List.mem_filter]
    constructor
    · rintro (rfl | ⟨⟨a, b⟩ | b, c⟩)
      · exact Or.inl ⟨rfl, Or.inl rfl⟩
      · exact Or.inl ⟨a, Or.inr ⟨b, decide_eq_true (fun q => c ⟨a, q⟩)⟩⟩
      · exact Or.inr b
    · rintro (⟨a, b | ⟨b, c⟩⟩ | b)
      · refine Or.inl ?_
        cases x; simp only at a; subst a; rw [← b]; rfl
      · exact Or.inr ⟨Or.inl ⟨a, b⟩, fun q => of_decide_eq_true c q.2⟩
      · exact Or.inr ⟨Or.inr b, fun q => h.o x b q.1⟩
  · unfold insE
    rw [List.map_cons, List.nodup_cons]
    refine ⟨fun q => ?_, ?_⟩
    · obtain ⟨y, hy, e1⟩ := List.mem_map.1 q
      exact of_decide_eq_true (List.mem_filter.1 hy).2 e1
    · exact h.d.sublist ((List.filter_sublist).map _)
theorem Tt.del (h : Tt D P N M) (hP : P.size ≤ maxLen) {q : ByteArray} (hq : q.size ≤ maxLen) : Tt (D.del (kl P q)) P (N.filter (fun y => decide (y.1 ≠ q))) M := by
  refine ⟨fun x => ?_, h.d.sublist ((List.filter_sublist).map _), h.o, h.k⟩
  rw [InD.del hP hq, h.m x, List.mem_filter]
  constructor
  · rintro ⟨⟨a, b⟩ | b, c⟩
    · exact Or.inl ⟨a, b, decide_eq_true (fun q => c ⟨a, q⟩)⟩
    · exact Or.inr b
  · rintro (⟨a, b, c⟩ | b)
    · exact ⟨Or.inl ⟨a, b⟩, fun q => of_decide_eq_true c q.2⟩
    · exact ⟨Or.inr b, fun q => h.o x b q.1⟩
theorem Tt.leave {k : Nat} (h : Tt D P N M) (hl : Lv D P D' (fun _ => false) k) : k = N.length ∧ Tt D' P [] M := by
  obtain ⟨ll, hc, e⟩ := hl.c
  refine ⟨h.cn ⟨ll, hc.d, fun x => by rw [hc.m x]; simp, e⟩, fun x => ?_, List.Pairwise.nil, h.o, h.k⟩
  rw [hl.m x, h.m x]
  constructor
  · rintro ⟨⟨a, b⟩ | b, c⟩
    · exact absurd a (c.resolve_right (by simp))
    · exact Or.inr b
  · rintro (⟨_, b⟩ | b)
    · simp at b
    · exact ⟨Or.inr b, Or.inl (h.o x b)⟩
theorem Tt.list {S : List Bv} (h : Tt D P N M) (hl : Li D S) : S.length = N.length + M.length := by
  have hn : (S.map (·.1)).Nodup := by
    have q := hl.d
    unfold List.Nodup
    rw [List.pairwise_map]
    exact q.imp (fun h e => h (by rw [e]))
  have e : ∀ x, x ∈ S.map (·.1) ↔ x ∈ N.map (ofE P) ++ M := fun x => by rw [← h.mem x, ← hl.m x, List.mem_map]
  have := Nat.le_antisymm (len_le hn (fun x hx => (e x).1 hx)) (len_le h.nodup (fun x hx => (e x).2 hx))
  simpa using this
theorem bd_ok {P q s : ByteArray} {v : Int} (hP : (L.splitO P).isSome = true) (hq : L.nameB q = true) (hs : L.nameB s = true) (hv : 0 ≤ v ∧ v ≤ 3) (h1 : q.size ≤ 32) (h2 : s.size ≤ 32) : (bdR ⟨P, q, s, v⟩).2 = 0 := by
  obtain ⟨ts, hts⟩ := Option.isSome_iff_exists.1 hP
  obtain ⟨rfl, hg⟩ := L.splitO_some hts
  have hsz : (L.pth ts).size ≤ 64 := by rw [L.pth_size]; exact hg.2.2
  have hS : bdS ⟨L.pth ts, q, s, v⟩ = true := by
    unfold bdS namedB inB L.splitE
    simp only [hP, hq, hs, hv.1, hv.2, decide_true, Bool.and_self, if_true]
  unfold bdR
  rw [if_pos hS]
  unfold outR
  rw [if_pos]
  unfold bdE bdL tx
  have f1 := form_ten (L.pth ts).size (by omega)
  have f2 := form_ten q.size (by omega)
  have f3 := form_ten s.size (by omega)
  have g1 : (L.pth ts).data.toList.length = (L.pth ts).size := by simp
  have g2 : q.data.toList.length = q.size := by simp
  have g3 : s.data.toList.length = s.size := by simp
  simp only [List.flatten_cons, List.flatten_nil, List.length_append, List.length_cons, List.length_nil, g1, g2, g3]
  omega
end Ac
end Go.Proofs.YthdofbjijpghfaaGreatDoor
