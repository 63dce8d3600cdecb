/-
  The law's play, exactly.
-/
import Derived.Test.YtdhnpgciclbfeaaGreatDoorAcZ
import Derived.Test.YtdhnpgciclbfeaaGreatDoorAcU
namespace Go.Proofs.YtdhnpgciclbfeaaGreatDoor
open Go.RowKit
namespace Ac
/-- What a step makes of a table. -/
def St (D : DataW Unit) (o : Sp) (D' : DataW Unit) : Prop :=
  (o.kind = 1 ∧ (bdR o.b).2 = 0 ∧ D' = D.put (kl o.b.p o.b.n) (eR o.b.s o.b.v)) ∨ (o.kind = 2 ∧ D' = D.del (kl o.p o.n)) ∨ (o.kind = 3 ∧ ∀ x, InD D' x ↔ InD D x ∧ x.p ≠ o.p) ∨ D' = D
theorem InD.put {D : DataW Unit} (hD : Maps.IsMap D) {x y : Bd} (h1 : y.p.size ≤ maxLen) (h2 : y.n.size ≤ maxLen) : InD (D.put (kl y.p y.n) (eR y.s y.v)) x ↔ x = y ∨ (InD D x ∧ ¬ (x.p = y.p ∧ x.n = y.n)) := by
  constructor
  · intro h
    by_cases e : kl x.p x.n = kl y.p y.n
    · refine Or.inl ?_
      have q := h.1 (.map [])
      rw [e, Maps.atKey_put_same hD (key_lit _ _)] at q
      obtain ⟨q1, q2⟩ := eR_inj q
      obtain ⟨r1, r2⟩ := kl_inj e h.2.1 h.2.2 h1 h2
      cases x; cases y
      simp only at q1 q2 r1 r2
      rw [q1, q2, r1, r2]
    · exact Or.inr ⟨⟨fun zd => by rw [← Maps.atKey_put_other e]; exact h.1 zd, h.2⟩, fun q => e (by rw [q.1, q.2])⟩
  · rintro (rfl | ⟨h, hn⟩)
    · exact ⟨fun zd => Maps.atKey_put_same hD (key_lit _ _) _ zd, h1, h2⟩
    · have e : kl x.p x.n ≠ kl y.p y.n := fun e => hn (kl_inj e h.2.1 h.2.2 h1 h2)
      exact ⟨fun zd => by rw [Maps.atKey_put_other e]; exact h.1 zd, h.2⟩
theorem bd_path {x : Bd} (h : (bdR x).2 = 0) : (L.splitO x.p).isSome = true := by
  unfold bdR at h
  split at h
  · rename_i hs
    unfold bdS namedB at hs
    simp only [Bool.and_eq_true, decide_eq_true_iff] at hs
    have q := hs.1.1
    unfold L.splitE at q
    split at q
    · assumption
    · omega
  · simp at h
def Sp.wh (o : Sp) : ByteArray := if o.kind = 1 then o.b.p else o.p
/-- What changes with a step: bindings at its path; one that comes is its own. -/
structure Ch (D : DataW Unit) (o : Sp) (D' : DataW Unit) : Prop where
  v : Vl D'
  i : ∀ x, InD D' x → InD D x ∨ (x.p = o.wh ∧ o.kind = 1 ∧ x.s = o.b.s)
  o : ∀ x, InD D x → InD D' x ∨ x.p = o.wh
theorem St.ch {D D' : DataW Unit} {o : Sp} (h : St D o D') (hD : Maps.IsMap D) (hf : o.Fit) (hv : Vl D) : Ch D o D' := by
  rcases h with ⟨hk, h0, rfl⟩ | ⟨hk, rfl⟩ | ⟨hk, h⟩ | rfl
  · have s1 : o.b.p.size ≤ maxLen := by have := hf.b.s.1; unfold maxLen; omega
    have s2 : o.b.n.size ≤ maxLen := by have := hf.b.s.2.1; unfold maxLen; omega
    have ew : o.wh = o.b.p := by unfold Sp.wh; rw [if_pos hk]
    refine ⟨fun x hx => ?_, fun x hx => ?_, fun x hx => ?_⟩
    · rcases (InD.put hD s1 s2).1 hx with rfl | q
      · exact bd_path h0
      · exact hv x q.1
    · rcases (InD.put hD s1 s2).1 hx with rfl | q
      · exact Or.inr ⟨ew.symm, hk, rfl⟩
      · exact Or.inl q.1
    · by_cases e : x.p = o.b.p ∧ x.n = o.b.n
      · exact Or.inr (by rw [ew]; exact e.1)
      · exact Or.inl ((InD.put hD s1 s2).2 (Or.inr ⟨hx, e⟩))
  · have s1 : o.p.size ≤ maxLen := by have := hf.p; unfold maxLen; omega
    have s2 : o.n.size ≤ maxLen := by have := hf.n; unfold maxLen; omega
    have ew : o.wh = o.p := by unfold Sp.wh; rw [if_neg (by omega)]
    refine ⟨fun x hx => hv x ((InD.del s1 s2).1 hx).1, fun x hx => Or.inl ((InD.del s1 s2).1 hx).1, fun x hx => ?_⟩
    by_cases e : x.p = o.p ∧ x.n = o.n
    · exact Or.inr (by rw [ew]; exact e.1)
    · exact Or.inl ((InD.del s1 s2).2 ⟨hx, e⟩)
  · have ew : o.wh = o.p := by unfold Sp.wh; rw [if_neg (by omega)]
    refine ⟨fun x hx => hv x ((h x).1 hx).1, fun x hx => Or.inl ((h x).1 hx).1, fun x hx => ?_⟩
    by_cases e : x.p = o.p
    · exact Or.inr (by rw [ew]; exact e)
    · exact Or.inl ((h x).2 ⟨hx, e⟩)
  · exact ⟨hv, fun x hx => Or.inl hx, fun x hx => Or.inl hx⟩
theorem vl_start : Vl D2 := fun x hx => by
  have q := (InD.del (x := x) (D := D1) (p := x0.p) (q := x0.n) (by decide) (by decide)).1 hx
  rcases (InD.put (x := x) (y := x0) Maps.isMap_empty (by decide) (by decide)).1 q.1 with rfl | r
  · exact absurd ⟨rfl, rfl⟩ q.2
  · have := r.1.1 (.lit (.bool true))
    have e := r.1.1 (.map [])
    have f : ∀ z : DataW Unit, (DataW.map [] : DataW Unit).atKey (kl x.p x.n) z = z := fun z => rfl
    rw [f] at this e
    rw [← e] at this
    simp at this
variable {w w' : World} {t b n : Nat} {D : DataW Unit}
set_option maxHeartbeats 4000000 in
set_option maxRecDepth 100000 in
theorem play_ex (o : Sp) (w : World) (t b n : Nat) (D : DataW Unit) (H : Ta w t b n D) (hn : n ≤ 100000) (hf : o.Fit) :
    Calls Tryz.prog 12 #[.pointer (some ⟨t, 0, none⟩), .agg o.cells.toArray] w fun e w' => e = .returned (.tuple #[]) ∧ ∃ D', Ta w' t b (n + 1) D' ∧ Kept (fun y => y = b) w w' ∧ St D o D' := by
  have FF := Lib.hid hf
  obtain ⟨two, kind, verb, ⟨bp, bn, bs, bv⟩, p, q, s⟩ := o
  unfold Sp.cells
  simp only
  obtain ⟨g3, hg3⟩ : ∃ g, g = w.heap.size := ⟨_, rfl⟩
  obtain ⟨X, hX⟩ : ∃ X, X = w.alloc (.cells #[.bool two, .int .i64 kind, .int .i64 verb, .string bp, .string bn, .string bs, .int .i64 bv, .string p, .string q, .string s] 40) := ⟨_, rfl⟩
  have AX : Hid (Below w.heap.size w X ∧ X.heap[g3]? = some (.cells #[.bool two, .int .i64 kind, .int .i64 verb, .string bp, .string bn, .string bs, .int .i64 bv, .string p, .string q, .string s] 40 (0, 0))) := Lib.hid ⟨by rw [hX]; exact (Below.refl _ _).alloc (Nat.le_refl _) _, by rw [hX, hg3, heap_alloc_new]⟩
  have HX := Lib.hid (H.below AX.out.1)
  have c1 : X.cell? ⟨g3, 1, none⟩ = some (.int .i64 kind) := by rw [cell_of_row _ _ _ _ _ _ AX.out.2]; rfl
  have c3 : X.cell? ⟨g3, 3, none⟩ = some (.string bp) := by rw [cell_of_row _ _ _ _ _ _ AX.out.2]; rfl
  have c4 : X.cell? ⟨g3, 4, none⟩ = some (.string bn) := by rw [cell_of_row _ _ _ _ _ _ AX.out.2]; rfl
  have c5 : X.cell? ⟨g3, 5, none⟩ = some (.string bs) := by rw [cell_of_row _ _ _ _ _ _ AX.out.2]; rfl
  have c6 : X.cell? ⟨g3, 6, none⟩ = some (.int .i64 bv) := by rw [cell_of_row _ _ _ _ _ _ AX.out.2]; rfl
  have c7 : X.cell? ⟨g3, 7, none⟩ = some (.string p) := by rw [cell_of_row _ _ _ _ _ _ AX.out.2]; rfl
  have c8 : X.cell? ⟨g3, 8, none⟩ = some (.string q) := by rw [cell_of_row _ _ _ _ _ _ AX.out.2]; rfl
  have ST := Lib.hid (set_any ⟨bp, bn, bs, bv⟩ X t b n D HX.out hn hf.b)
  have DR := Lib.hid (drop_any p q X t b n D HX.out (by have := hf.p; unfold maxLen; simp only at this; omega) (by have := hf.n; unfold maxLen; simp only at this; omega))
  have LV := Lib.hid (leave_ex p X t b n D HX.out (by omega))
  unfold Bd.val at ST
  simp only at ST
  have hX' := hX.symm
  have hg3' := hg3.symm
  clear hX hg3 H hn hf
  by_cases h1 : kind = 1
  · subst h1
    go_enter Tryz.func12, Tryz.ntmps12
    go_wp2_with fail
    refine ST.out.mono ?_
    rintro e w1 ⟨r, D', rfl, hT, hk, hd, -⟩
    have R1 := Lib.hid (And.intro hT hk)
    have ZZ : Hid (St D ⟨two, 1, verb, ⟨bp, bn, bs, bv⟩, p, q, s⟩ D') := Lib.hid (by
      rcases hd with ⟨-, h1, h2⟩ | ⟨-, h2⟩
      · exact Or.inl ⟨rfl, h1, h2⟩
      · exact Or.inr (Or.inr (Or.inr h2)))
    clear hT hk hd
    go_wp2_with fail
    go_end0
    exact ⟨rfl, D', R1.out.1, (Below.kept AX.out.1 _).trans R1.out.2 (fun _ _ e => e), ZZ.out⟩
  · have g1 : (kind == 1) = false := by rw [beq_eq_false_iff_ne]; exact h1
    by_cases h2 : kind = 2
    · subst h2
      clear h1
      go_enter Tryz.func12, Tryz.ntmps12
      go_wp2_with fail
      refine DR.out.mono ?_
      rintro e w1 ⟨r, D', rfl, hT, hk, hd, -⟩
      have R1 := Lib.hid (And.intro hT hk)
      have ZZ : Hid (St D ⟨two, 2, verb, ⟨bp, bn, bs, bv⟩, p, q, s⟩ D') := Lib.hid (by
        rcases hd with ⟨-, h1, h2, h3⟩ | ⟨-, h2⟩
        · exact Or.inr (Or.inl ⟨rfl, h3⟩)
        · exact Or.inr (Or.inr (Or.inr h2)))
      clear hT hk hd
      go_wp2_with fail
      go_end0
      exact ⟨rfl, D', R1.out.1.more (by omega), (Below.kept AX.out.1 _).trans R1.out.2 (fun _ _ e => e), ZZ.out⟩
    · have g2 : (kind == 2) = false := by rw [beq_eq_false_iff_ne]; exact h2
      by_cases h3 : kind = 3
      · subst h3
        clear h1 h2
        go_enter Tryz.func12, Tryz.ntmps12
        go_wp2_with fail
        refine LV.out.mono ?_
        rintro e w1 ⟨r, D', rfl, hT, hk, hd⟩
        have R1 := Lib.hid (And.intro hT hk)
        have ZZ : Hid (St D ⟨two, 3, verb, ⟨bp, bn, bs, bv⟩, p, q, s⟩ D') := Lib.hid (Or.inr (Or.inr (Or.inl ⟨rfl, fun x => by rw [hd.m x]; simp⟩)))
        clear hT hk hd
        go_wp2_with fail
        go_end0
        exact ⟨rfl, D', R1.out.1.more (by omega), (Below.kept AX.out.1 _).trans R1.out.2 (fun _ _ e => e), ZZ.out⟩
      · have g3 : (kind == 3) = false := by rw [beq_eq_false_iff_ne]; exact h3
        clear ST DR LV
        go_enter Tryz.func12, Tryz.ntmps12
        go_wp2_with fail
        go_end0
        exact ⟨rfl, D, HX.out.more (by omega), Below.kept AX.out.1 _, Or.inr (Or.inr (Or.inr rfl))⟩
end Ac
end Go.Proofs.YtdhnpgciclbfeaaGreatDoor
