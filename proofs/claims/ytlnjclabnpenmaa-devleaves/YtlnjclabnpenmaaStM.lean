/-
  What a step leaves of a block; of bytes besides.
-/
import Derived.Test.YtlnjclabnpenmaaOpsA
namespace Go.Proofs.Ytlnjclabnpenmaa
open Go.RowKit Go.Maps
theorem sets_other (f : Nat → Int × Int) (b n : Nat) : ∀ (l : List Wt) (k : Nat) (m : List UInt8), OkC n l → m.length = 512 * n → (∀ x ∈ l, x.1 ≠ b) → raw (sets f k l m) b = raw m b
  | [], _, _, _, _, _ => rfl
  | x :: l, k, m, ho, hm, hb => by
    have hx := ho x (by simp)
    have hl : (x.2.take (keptN (f k)).1).length ≤ 512 := by rw [List.length_take]; omega
    rw [sets, sets_other f b n l (k + 1) _ (fun y hy => ho y (by simp [hy])) (by rw [lay_length _ _ _ (by omega)]; exact hm) (fun y hy => hb y (by simp [hy])), raw_lay_other _ _ _ _ hl (by omega) (Ne.symm (hb x (by simp)))]
theorem sets_read (b n : Nat) : ∀ (l : List Wt) (k : Nat) (m : List UInt8), OkC n l → m.length = 512 * n → raw (sets (fun _ => (1, 0)) k l m) b = match lastIx b l k with | some i => (l.getD (i - k) (0, [])).2 | none => raw m b
  | [], _, _, _, _ => rfl
  | x :: l, k, m, ho, hm => by
    have hx := ho x (by simp)
    have e : x.2.take (keptN (1, 0)).1 = x.2 := List.take_of_length_le (by show x.2.length ≤ 512; omega)
    rw [sets, e, sets_read b n l (k + 1) _ (fun y hy => ho y (by simp [hy])) (by rw [lay_length _ _ _ (by omega)]; exact hm), lastIx]
    cases hl : lastIx b l (k + 1) with
    | some i =>
      obtain ⟨h1, _⟩ := lastIx_lt b l (k + 1) i hl
      have : i - k = (i - (k + 1)) + 1 := by omega
      simp only [this, List.getD_cons_succ]
    | none =>
      simp only
      by_cases e2 : x.1 = b
      · rw [if_pos e2]
        subst e2
        rw [raw_lay_same _ _ _ (by omega) (by omega), splice_all _ _ (by rw [raw_length _ _ (by omega)]; exact hx.2)]
        simp
      · rw [if_neg e2, raw_lay_other _ _ _ _ (by omega) (by omega) (Ne.symm e2)]
theorem flush_read {s : DS} (h : Fit s) (b : Nat) : raw (sets (fun _ => (1, 0)) 0 s.cache s.med) b = rdB s b := by
  rw [sets_read b s.n s.cache 0 s.med h.ok h.len]
  unfold rdB
  cases lastIx b s.cache 0 <;> rfl
theorem act_down {s : DS} (h : (actD s).2 ≠ 0) : (actD s).1.down = true := by
  unfold actD at h ⊢
  split at h
  · rw [if_pos (by assumption)]
  · rename_i q1
    rw [if_neg q1]
    split at h
    · rename_i q2
      rw [if_pos q2]; exact q2
    · split at h
      · exact absurd rfl h
      · exact absurd rfl h
/-- A block that no waiting write is of, and what it holds. -/
def Quiet (s : DS) (a : Nat) (R : List UInt8) : Prop := raw s.med a = R ∧ (∀ x ∈ s.cache, x.1 ≠ a)
theorem step_quiet {s s' : DS} {o : OpD} {r : Int} {a : Nat} {R : List UInt8} (h : Step s o s' r) (hf : Fit s) (hq : Quiet s a R) (hn : ¬ ((o.kind = 3 ∨ o.kind = 9) ∧ o.blk = (a : Int))) : Quiet s' a R := by
  have SA := act_same s
  have QA : Quiet (actD s).1 a R := ⟨by rw [SA.2.1]; exact hq.1, by rw [SA.1]; exact hq.2⟩
  rcases h with ⟨ok, h⟩ | ⟨ok, h⟩ | ⟨ok, h⟩ | ⟨ok, h⟩ | ⟨ok, h, h2⟩ | ⟨_, _, _, _, _, h, h2⟩
  · obtain ⟨h1, _⟩ := pair_fst h
    unfold wrE at h1
    split at h1
    · subst h1; exact hq
    · rename_i q1
      split at h1
      · subst h1; exact hq
      · split at h1
        · subst h1; exact QA
        · subst h1
          refine ⟨QA.1, fun x hx => ?_⟩
          rcases List.mem_append.1 hx with hx | hx
          · exact QA.2 x hx
          · simp only [List.mem_cons, List.not_mem_nil, or_false] at hx
            subst hx
            show o.blk.toNat ≠ a
            have hb : hasB s o.blk = true := by cases hh : hasB s o.blk with | true => rfl | false => exact absurd hh q1
            obtain ⟨k, hk, _⟩ := hasB_nat hb
            intro e
            exact hn ⟨.inl ok, by omega⟩
  · obtain ⟨h1, _⟩ := pair_fst h
    unfold flD at h1
    split at h1
    · subst h1; exact QA
    · subst h1
      refine ⟨?_, fun x hx => by cases hx⟩
      show raw (sets _ 0 s.cache s.med) a = R
      rw [sets_other _ a s.n s.cache 0 s.med hf.ok hf.len hq.2]; exact hq.1
  · obtain ⟨h1, _⟩ := pair_fst h
    unfold edD at h1
    split at h1
    · subst h1; exact hq
    · rename_i q1
      split at h1
      · subst h1; exact hq
      · rename_i q2
        subst h1
        refine ⟨?_, hq.2⟩
        have hb : hasB s o.blk = true := by cases hh : hasB s o.blk with | true => rfl | false => exact absurd hh q1
        obtain ⟨k, hk, hkn⟩ := hasB_nat hb
        have hka : k ≠ a := fun e => hn ⟨.inr ok, by omega⟩
        have hl := hf.len
        show raw (splice s.med (512 * o.blk.toNat + o.n.toNat) o.bs) a = R
        rw [← hq.1]
        apply List.ext_getElem?
        intro j
        by_cases hj : j < 512
        · rw [raw_at _ _ _ hj, raw_at _ _ _ hj, splice_at _ _ _ (by omega), if_neg (by omega)]
        · unfold raw
          rw [List.getElem?_eq_none (by rw [List.length_take]; omega), List.getElem?_eq_none (by rw [List.length_take]; omega)]
  · obtain ⟨h1, _⟩ := pair_fst h
    unfold armD at h1
    split at h1
    · subst h1; exact hq
    · split at h1
      · subst h1; exact hq
      · subst h1; exact hq
  · subst h
    refine ⟨?_, fun x hx => by cases hx⟩
    show raw (sets _ 0 s.cache s.med) a = R
    rw [sets_other _ a s.n s.cache 0 s.med hf.ok hf.len hq.2]; exact hq.1
  · subst h; exact hq
theorem step_n {s s' : DS} {o : OpD} {r : Int} (h : Step s o s' r) : s'.n = s.n := by
  have SA := act_same s
  rcases h with ⟨_, h⟩ | ⟨_, h⟩ | ⟨_, h⟩ | ⟨_, h⟩ | ⟨_, h, h2⟩ | ⟨_, _, _, _, _, h, h2⟩
  · obtain ⟨h1, _⟩ := pair_fst h
    unfold wrE at h1
    split at h1
    · subst h1; rfl
    · split at h1
      · subst h1; rfl
      · split at h1
        · subst h1; exact SA.2.2.2.2.1
        · subst h1; exact SA.2.2.2.2.1
  · obtain ⟨h1, _⟩ := pair_fst h
    unfold flD at h1
    split at h1
    · subst h1; exact SA.2.2.2.2.1
    · subst h1; exact SA.2.2.2.2.1
  · obtain ⟨h1, _⟩ := pair_fst h
    unfold edD at h1
    split at h1
    · subst h1; rfl
    · split at h1
      · subst h1; rfl
      · subst h1; rfl
  · obtain ⟨h1, _⟩ := pair_fst h
    unfold armD at h1
    split at h1
    · subst h1; rfl
    · split at h1
      · subst h1; rfl
      · subst h1; rfl
  · subst h; rfl
  · subst h; rfl
/-- Bytes of a slice lie in no block of a device. -/
theorem Dv.bytes_ne {B B' : Nat} {w : World} {d mb mp : Nat} {cv v : Value} {s : DS} {l : List UInt8} (h : Dv B w d mb mp cv s) (ho : Own B' w v l) : ∀ k, v.ownBlock = some k → ¬ Foot d mb mp cv k := by
  intro k hk hf
  obtain ⟨cur, hc⟩ := row_block ho hk
  rcases hf with rfl | rfl | rfl | hf
  · rw [h.self] at hc; simp at hc
  · rw [h.med] at hc; simp at hc
  · obtain ⟨M, hM, _⟩ := h.latest
    obtain ⟨es, c, hm⟩ := map_block hM
    rw [hm] at hc; simp at hc
  · obtain ⟨cur2, hc2⟩ := row_block h.cache hf
    rw [hc2] at hc; simp at hc
theorem own_left {B B' : Nat} {w w' : World} {d mb mp : Nat} {cv v : Value} {s s' : DS} {l : List UInt8} (ho : Own B' w v l) (h : Dv B w d mb mp cv s) (hl : Left B w d mb mp cv w' s') : Own B' w' v l := by
  obtain ⟨_, _, hk, _⟩ := hl
  exact ho.kept hk (h.bytes_ne ho)
end Go.Proofs.Ytlnjclabnpenmaa
