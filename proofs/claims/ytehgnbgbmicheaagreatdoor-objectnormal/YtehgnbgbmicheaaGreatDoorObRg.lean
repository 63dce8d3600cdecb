/-
  A region that draws its order, whose last store turns a cell that one of its loads reads: S0 holds throughout, S1 till operation h comes up.
-/
import Derived.Test.YtehgnbgbmicheaaGreatDoorObOo
import Derived.Deep.RegionHeld3
namespace Go.Proofs.YtehgnbgbmicheaaGreatDoor
open Go Go.RowKit
section
variable {P : Program} {ops : Array Oper} {Q : Exit → Act → World → Prop} {md : Region.Mode} {S0 S1 : World → Prop} {h i : Nat} {oi : Oper} {v : Value}
def wpTwo (P : Program) (md : Region.Mode) (ops : Array Oper) (Q : Exit → Act → World → Prop) (S0 S1 : World → Prop) (h : Nat) : Nat → Array Bool → Act → World → Prop
  | 0, l, a, w => Region.ready md ops l = [] ∧ Q .normal a w
  | n + 1, l, a, w => (Region.ready md ops l = [] → Q .normal a w) ∧
    ∀ j ∈ Region.ready md ops l, wpOp P ops Q j (fun a' w' => (S0 w' ∧ ((l.setIfInBounds j true).getD h true = false → S1 w')) ∧ wpTwo P md ops Q S0 S1 h n (l.setIfInBounds j true) a' w') a w
theorem two_any : ∀ (n : Nat) (l : Array Bool) (a : Act) (w : World), wpTwo P md ops Q S0 S1 h n l a w → wpAny P md ops Q n l a w := by
  intro n
  induction n with
  | zero => exact fun l a w q => q
  | succ n ih => exact fun l a w q => ⟨q.1, fun j hj => wpOp_mono (fun a' w' r => ih _ a' w' r.2) (q.2 j hj)⟩
theorem two_first {I : Array Bool → Prop} {S' : World → Prop} (hi : ops[i]? = some oi) (hsel : Region.noSelect ops = true) (hQ : ∀ c a w, Q (.panic c) (a.put oi.dst v) w → Q (.panic c) a w) (hne : h ≠ i)
    (step : ∀ l j, I l → i ∈ Region.ready md ops l → j ∈ Region.ready md ops l → j ≠ i → I (l.setIfInBounds j true) ∧ ∀ w, S0 w → (((l.setIfInBounds i true).setIfInBounds j true).getD h true = false → S1 w) → S' w) :
    ∀ (n : Nat) (l : Array Bool) (a : Act) (w : World), (∀ j oj, ops[j]? = some oj → j ≠ i → l.getD j true = false → (∀ e ∈ oj.after, Region.binds md e = true → e.on ≠ i) → oi.apart ops oj = true) →
      I l → i ∈ Region.ready md ops l → YieldsIf P ops S' oi v a → S' w → (S0 w ∧ (l.getD h true = false → S1 w)) →
      wpTwo P md ops Q S0 S1 h n (l.setIfInBounds i true) (a.put oi.dst v) w → wpTwo P md ops Q S0 S1 h (n + 1) l a w := by
  intro n
  induction n with
  | zero =>
    intro l a w _ hI hr hy hS hB H
    refine ⟨fun q => (by rw [q] at hr; cases hr), fun j hj => ?_⟩
    rcases Classical.em (j = i) with e | e
    · rw [e]; exact hy.wpOp hi hS ⟨⟨hB.1, fun q => hB.2 (by rw [getD_set_ne true (Ne.symm hne)] at q; exact q)⟩, H⟩
    · have q := ready_mono (i := i) hj e
      rw [H.1] at q
      cases q
  | succ n ih =>
    intro l a w hfree hI hr hy hS hB H
    refine ⟨fun q => (by rw [q] at hr; cases hr), fun j hj => ?_⟩
    rcases Classical.em (j = i) with e | e
    · rw [e]; exact hy.wpOp hi hS ⟨⟨hB.1, fun q => hB.2 (by rw [getD_set_ne true (Ne.symm hne)] at q; exact q)⟩, H⟩
    · obtain ⟨un, oj, hoj, all⟩ := mem_ready.1 hj
      have nw : ∀ d ∈ oj.after, Region.binds md d = true → d.on ≠ i := by
        intro d hd hb q
        have c1 := all d hd hb
        have c0 := (mem_ready.1 hr).1
        rw [q] at c1
        rcases Nat.lt_or_ge i l.size with z | z
        · simp [z] at c0 c1; rw [c0] at c1; cases c1
        · simp [Array.getElem?_eq_none z] at c1
      have swap := wpOp_putIf (S := S') hoj (hfree j oj hoj e un nw) (fun cs b => Region.noSelect_spec hsel i oi cs b hi) (fun cs b => Region.noSelect_spec hsel j oj cs b hoj) hQ hy (H.2 j (ready_mono hj e))
      refine wpOp_mono (fun a' w' r => ?_) swap
      obtain ⟨y', ⟨s0, s1⟩, H'⟩ := r
      have st := step l j hI hr hj e
      have c9 : (l.setIfInBounds j true).getD h true = false → S1 w' := fun q => s1 (by
        rw [Array.setIfInBounds_comm _ _ (Ne.symm e), getD_set_ne true (Ne.symm hne)]; exact q)
      refine ⟨⟨s0, c9⟩, ih (l.setIfInBounds j true) a' w' ?_ st.1 (ready_mono hr (Ne.symm e)) y' (st.2 w' s0 s1) ⟨s0, c9⟩ ?_⟩
      · intro k ok hk hki hun hno
        refine hfree k ok hk hki ?_ hno
        rcases Classical.em (j = k) with z | z
        · rw [← z]; exact un
        · rw [getD_set_ne true z] at hun; exact hun
      · rw [Array.setIfInBounds_comm _ _ e]; exact H'
/-- Take an operation that yields in every world that meets S0. -/
theorem two_take0 {n : Nat} {l : Array Bool} {a : Act} {w : World} (hi : ops[i]? = some oi) (hs : Region.noSelect ops = true) (hf : Region.free md ops l i = true) (hr : (Region.ready md ops l).contains i = true) (hne : (h == i) = false)
    (hQ : ∀ c a w, Q (.panic c) (a.put oi.dst v) w → Q (.panic c) a w) (hy : YieldsIf P ops S0 oi v a) (hB : S0 w ∧ (l.getD h true = false → S1 w))
    (H : wpTwo P md ops Q S0 S1 h n (l.setIfInBounds i true) (a.put oi.dst v) w) : wpTwo P md ops Q S0 S1 h (n + 1) l a w :=
  two_first (I := fun _ => True) (S' := S0) hi hs hQ (by simpa using hne) (fun _ _ _ _ _ _ => ⟨trivial, fun _ q _ => q⟩) n l a w (Region.free_spec hi hf) trivial (by simpa using hr) hy hB.1 hB H
/-- Take a load that yields till h comes up, which waits for it. -/
theorem two_take1 {n : Nat} {l : Array Bool} {a : Act} {w : World} (oh : Oper) (hi : ops[i]? = some oi) (hs : Region.noSelect ops = true) (hf : Region.free md ops l i = true) (hr : (Region.ready md ops l).contains i = true) (hne : (h == i) = false)
    (hh : ops[h]? = some oh) (hd : oh.after.any (fun e => Region.binds md e && e.on == i) = true) (hl : l.getD h true = false)
    (hQ : ∀ c a w, Q (.panic c) (a.put oi.dst v) w → Q (.panic c) a w) (hy : YieldsIf P ops S1 oi v a) (hB : S0 w ∧ (l.getD h true = false → S1 w))
    (H : wpTwo P md ops Q S0 S1 h n (l.setIfInBounds i true) (a.put oi.dst v) w) : wpTwo P md ops Q S0 S1 h (n + 1) l a w := by
  have hn : h ≠ i := by simpa using hne
  refine two_first (I := fun l => l.getD h true = false) (S' := S1) hi hs hQ hn (fun l j hI hri hj e => ?_) n l a w (Region.free_spec hi hf) hl (by simpa using hr) hy (hB.2 hl) hB H
  have jh : j ≠ h := by
    intro q
    obtain ⟨un, oj, hoj, all⟩ := mem_ready.1 hj
    rw [q, hh] at hoj
    obtain rfl := Option.some.inj hoj
    obtain ⟨k, hk, hb⟩ := Array.any_eq_true.1 hd
    have hm : oh.after[k] ∈ oh.after := Array.getElem_mem hk
    simp only [Bool.and_eq_true, beq_iff_eq] at hb
    have c1 := all _ hm hb.1
    have c0 := (mem_ready.1 hri).1
    rw [hb.2] at c1
    rcases Nat.lt_or_ge i l.size with z | z
    · simp [z] at c0 c1; rw [c0] at c1; cases c1
    · simp [Array.getElem?_eq_none z] at c1
  have g1 : (l.setIfInBounds j true).getD h true = false := by rw [getD_set_ne true jh]; exact hI
  refine ⟨g1, fun w _ q => q ?_⟩
  rw [Array.setIfInBounds_comm _ _ (Ne.symm e), getD_set_ne true (Ne.symm hn)]; exact g1
/-- One alone may come up. -/
theorem two_one {n : Nat} {l : Array Bool} {a : Act} {w : World} {j : Nat} {o : Oper} (hr : Region.ready md ops l = [j]) (ho : ops[j]? = some o)
    (H : ∀ K : Act → World → Prop, Shut (∀ a' w', (S0 w' ∧ ((l.setIfInBounds j true).getD h true = false → S1 w')) → wpTwo P md ops Q S0 S1 h n (l.setIfInBounds j true) a' w' → K a' w') → if Region.wanted o (yielded ops a.tmps) = true then Oper.wp P o a w K Q else K (a.put o.dst undef) w) :
    wpTwo P md ops Q S0 S1 h (n + 1) l a w :=
  ⟨fun q => (by rw [q] at hr; cases hr), fun k hk => by
    rw [hr, List.mem_singleton] at hk
    subst hk
    exact wpOp_step ho (fun K hK => H K (fun a' w' q r => hK a' w' ⟨q, r⟩))⟩
theorem two_done {l : Array Bool} {a : Act} {w : World} (hr : Region.ready md ops l = []) (H : Q .normal a w) : ∀ n, wpTwo P md ops Q S0 S1 h n l a w
  | 0 => ⟨hr, H⟩
  | _ + 1 => ⟨fun _ => H, by rw [hr]; simp⟩
theorem region_two {id : Nat} {a : Act} {w : World} (S0 S1 : World → Prop) (h : Nat) (hm : P.follows .mixedOrders = true) (H : wpTwo P .any ops Q S0 S1 h ops.size (Array.replicate ops.size false) a w.drew) : (Code.region id ops true).wp P Q a w :=
  wp_region_any hm (two_any _ _ _ _ H)
end
end Go.Proofs.YtehgnbgbmicheaaGreatDoor
