/-
  Steps that came in; what a step can do.
-/
import Derived.Test.YtlnjclabnpenmaaPlyA
import Derived.Test.YtlnjclabnpenmaaLivA
namespace Go.Proofs.Ytlnjclabnpenmaa
open Go.RowKit Go.Maps
/-- The slice v holds the steps l. -/
def Ops (w : World) (v : Value) (l : List OpD) : Prop :=
  (∀ o ∈ l, o.At w) ∧ ∃ a cap, v = .slice a l.length cap ∧ l.length ≤ cap ∧ cap ≤ maxLen ∧ (l ≠ [] → ∃ b off, a = some ⟨b, off, none⟩ ∧ ∀ j x, l[j]? = some x → ∀ i u, x.cells[i]? = some u → w.cell? ⟨b, off + j * 8 + i, none⟩ = some u)
theorem OpD.At.below {o : OpD} {w w' : World} (h : o.At w) (hb : Below w.heap.size w w') : o.At w' := ⟨h.1.below hb, h.2.1.below hb, h.2.2.1, h.2.2.2⟩
theorem Ops.below {w w' : World} {v : Value} {l : List OpD} (H : Ops w v l) (hb : Below w.heap.size w w') : Ops w' v l := by
  obtain ⟨h0, a, cap, e, h1, h2, h3⟩ := H
  refine ⟨fun o ho => (h0 o ho).below hb, a, cap, e, h1, h2, fun hne => ?_⟩
  obtain ⟨b, off, ea, hc⟩ := h3 hne
  refine ⟨b, off, ea, fun j x hj i u hu => ?_⟩
  have := hc j x hj i u hu
  rw [hb.cell (p := ⟨b, off + j * 8 + i, none⟩) (block_lt_of_cell this)]
  exact this
theorem act_code (s : DS) : (actD s).2 = 0 ∨ (actD s).2 = 6 := by
  unfold actD
  split
  · exact .inr rfl
  · split
    · exact .inr rfl
    · split
      · exact .inl rfl
      · exact .inl rfl
theorem act_counts (s : DS) : (actD s).1.cr = s.cr := by
  unfold actD
  split
  · rfl
  · split
    · rfl
    · split
      · rfl
      · rfl
theorem pair_fst {α β : Type} {a : α} {b : β} {p : α × β} (h : (a, b) = p) : a = p.1 ∧ b = p.2 := by subst h; exact ⟨rfl, rfl⟩
theorem step_refused {s s' : DS} {o : OpD} {r : Int} (h : Step s o s' r) (hr : r ≠ 0) : s'.med = s.med ∧ s'.cache = s.cache ∧ s'.cr = s.cr ∧ s'.cw = s.cw ∧ s'.cf = s.cf := by
  have SA := act_same s
  rcases h with ⟨_, h⟩ | ⟨_, h⟩ | ⟨_, h⟩ | ⟨_, h⟩ | ⟨_, h, h2⟩ | ⟨_, _, _, _, _, h, h2⟩
  · obtain ⟨h1, h2⟩ := pair_fst h
    unfold wrE at h1 h2
    split at h1
    · subst h1; exact ⟨rfl, rfl, rfl, rfl, rfl⟩
    · rename_i q1
      rw [if_neg q1] at h2
      split at h1
      · subst h1; exact ⟨rfl, rfl, rfl, rfl, rfl⟩
      · rename_i q2
        rw [if_neg q2] at h2
        split at h1
        · subst h1; exact ⟨SA.2.1, SA.1, act_counts s, SA.2.2.2.2.2, SA.2.2.1⟩
        · rename_i q3
          rw [if_neg q3] at h2
          exact absurd h2 hr
  · obtain ⟨h1, h2⟩ := pair_fst h
    unfold flD at h1 h2
    split at h1
    · subst h1; exact ⟨SA.2.1, SA.1, act_counts s, SA.2.2.2.2.2, SA.2.2.1⟩
    · rename_i q3
      rw [if_neg q3] at h2
      exact absurd h2 hr
  · obtain ⟨h1, h2⟩ := pair_fst h
    unfold edD at h1 h2
    split at h1
    · subst h1; exact ⟨rfl, rfl, rfl, rfl, rfl⟩
    · rename_i q1
      rw [if_neg q1] at h2
      split at h1
      · subst h1; exact ⟨rfl, rfl, rfl, rfl, rfl⟩
      · rename_i q2
        rw [if_neg q2] at h2
        exact absurd h2 hr
  · obtain ⟨h1, _⟩ := pair_fst h
    unfold armD at h1
    split at h1
    · subst h1; exact ⟨rfl, rfl, rfl, rfl, rfl⟩
    · split at h1
      · subst h1; exact ⟨rfl, rfl, rfl, rfl, rfl⟩
      · subst h1; exact ⟨rfl, rfl, rfl, rfl, rfl⟩
  · exact absurd h2 hr
  · exact absurd h2 hr
theorem step_ws {s s' : DS} {o : OpD} {r : Int} (h : Step s o s' r) : s'.ws ≤ s.ws + 1 := by
  have SA := act_same s
  rcases h with ⟨_, h⟩ | ⟨_, h⟩ | ⟨_, h⟩ | ⟨_, h⟩ | ⟨_, h, h2⟩ | ⟨_, _, _, _, _, h, h2⟩
  · obtain ⟨h1, _⟩ := pair_fst h
    unfold wrE at h1
    split at h1
    · subst h1; exact Nat.le_succ _
    · split at h1
      · subst h1; exact Nat.le_succ _
      · split at h1
        · subst h1; rw [SA.2.2.2.1]; exact Nat.le_succ _
        · subst h1
          show (actD s).1.ws + 1 ≤ _
          rw [SA.2.2.2.1]
          exact Nat.le_refl _
  · obtain ⟨h1, _⟩ := pair_fst h
    unfold flD at h1
    split at h1
    · subst h1; rw [SA.2.2.2.1]; exact Nat.le_succ _
    · subst h1
      show (actD s).1.ws ≤ _
      rw [SA.2.2.2.1]; exact Nat.le_succ _
  · obtain ⟨h1, _⟩ := pair_fst h
    unfold edD at h1
    split at h1
    · subst h1; exact Nat.le_succ _
    · split at h1
      · subst h1; exact Nat.le_succ _
      · subst h1; exact Nat.le_succ _
  · obtain ⟨h1, _⟩ := pair_fst h
    unfold armD at h1
    split at h1
    · subst h1; exact Nat.le_succ _
    · split at h1
      · subst h1; exact Nat.le_succ _
      · subst h1; exact Nat.le_succ _
  · subst h; exact Nat.le_succ _
  · subst h; exact Nat.le_succ _
theorem step_code {s s' : DS} {o : OpD} {r : Int} (h : Step s o s' r) (hr : r ≠ 0) : r = 60 ∨ r = 61 ∨ r = 1 ∨ r = 6 := by
  have AC := act_code s
  rcases h with ⟨_, h⟩ | ⟨_, h⟩ | ⟨_, h⟩ | ⟨_, h⟩ | ⟨_, h, h2⟩ | ⟨_, _, _, _, _, h, h2⟩
  · obtain ⟨_, h2⟩ := pair_fst h
    unfold wrE at h2
    split at h2
    · exact .inl h2
    · split at h2
      · exact .inr (.inl h2)
      · split at h2
        · rcases AC with a | a
          · exact absurd (h2.trans a) hr
          · exact .inr (.inr (.inr (h2.trans a)))
        · exact absurd h2 hr
  · obtain ⟨_, h2⟩ := pair_fst h
    unfold flD at h2
    split at h2
    · rcases AC with a | a
      · exact absurd (h2.trans a) hr
      · exact .inr (.inr (.inr (h2.trans a)))
    · exact absurd h2 hr
  · obtain ⟨_, h2⟩ := pair_fst h
    unfold edD at h2
    split at h2
    · exact .inl h2
    · split at h2
      · exact .inr (.inr (.inl h2))
      · exact absurd h2 hr
  · obtain ⟨_, h2⟩ := pair_fst h
    unfold armD at h2
    split at h2
    · exact .inr (.inr (.inl h2))
    · split at h2
      · exact .inr (.inr (.inr h2))
      · exact absurd h2 hr
  · exact absurd h2 hr
  · exact absurd h2 hr
/-- What a step leaves of memory. -/
theorem Left.below {B : Nat} {w w' : World} {d mb mp : Nat} {cv : Value} {s s' : DS} (h : Left B w d mb mp cv w' s') (hd : Dv B w d mb mp cv s) (hB : B ≤ w.heap.size) : Below B w w' := by
  obtain ⟨cv', _, hk, _⟩ := h
  exact hk.below hB (fun x hx => (hd.foot_lt x hx).1)
end Go.Proofs.Ytlnjclabnpenmaa
