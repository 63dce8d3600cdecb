/-
  there; what Replay makes of it.
-/
import Derived.Test.YtoocpbpdoaplgaaDoorWtS
import Derived.Test.YtoocpbpdoaplgaaDoorWtL
namespace Go.Proofs.YtoocpbpdoaplgaaDoor
open Go.RowKit
namespace Wt
def thS (x kind : Int) (path : ByteArray) (out : List ByteArray) (e : Ev) : List ByteArray :=
  if e.v ≤ x ∧ e.k = kind ∧ L.underB e.p path = true then out.filter (fun t => decide (t ≠ tx e)) ++ (if e.g = true then [] else [tx e]) else out
def thL (x kind : Int) (path : ByteArray) (A : List Ev) : List ByteArray := A.foldl (thS x kind path) []
theorem thL_succ (x kind : Int) (path : ByteArray) (A : List Ev) (k : Nat) (h : k < A.length) : thL x kind path (A.take (k + 1)) = thS x kind path (thL x kind path (A.take k)) (A.getD k Ev.z) := by
  unfold thL; rw [take_onez A k Ev.z h, List.foldl_append]; rfl
theorem thS_len (x kind : Int) (path : ByteArray) (out : List ByteArray) (e : Ev) : (thS x kind path out e).length ≤ out.length + 1 := by
  unfold thS
  split
  · rw [List.length_append]
    have := List.length_filter_le (fun t => decide (t ≠ tx e)) out
    split
    · simp only [List.length_nil]; omega
    · simp only [List.length_singleton]; omega
  · omega
theorem thL_len (x kind : Int) (path : ByteArray) (A : List Ev) : ∀ k, k ≤ A.length → (thL x kind path (A.take k)).length ≤ k := by
  intro k
  induction k with
  | zero => intro _; simp [thL]
  | succ k ih =>
    intro h
    rw [thL_succ x kind path A k (by omega)]
    have := thS_len x kind path (thL x kind path (A.take k)) (A.getD k Ev.z)
    have := ih (by omega)
    omega
theorem thS_nodup {x kind : Int} {path : ByteArray} {out : List ByteArray} (h : out.Nodup) (e : Ev) : (thS x kind path out e).Nodup := by
  unfold thS
  split
  · split
    · rw [List.append_nil]; exact h.filter _
    · rw [List.nodup_append]
      refine ⟨h.filter _, by simp, ?_⟩
      intro a ha b hb e
      rw [List.mem_singleton] at hb
      subst hb e
      simp at ha
  · exact h
theorem thL_nodup (x kind : Int) (path : ByteArray) (A : List Ev) : (thL x kind path A).Nodup := by
  unfold thL
  suffices ∀ out : List ByteArray, out.Nodup → (A.foldl (thS x kind path) out).Nodup from this [] List.nodup_nil
  induction A with
  | nil => exact fun out h => h
  | cons a r ih => exact fun out h => ih _ (thS_nodup h a)
/-- All of it: what is above x counts for nothing. -/
theorem th_le (x kind : Int) (path : ByteArray) (A : List Ev) : ∀ out : List ByteArray, A.foldl (thS x kind path) out = (A.filter (le x)).foldl (thS x kind path) out := by
  induction A with
  | nil => exact fun _ => rfl
  | cons a r ih =>
    intro out
    by_cases q : a.v ≤ x
    · rw [List.filter_cons_of_pos (by simpa using q), List.foldl_cons, List.foldl_cons, ih]
    · rw [List.filter_cons_of_neg (by simpa using q), List.foldl_cons, ih]
      congr 1
      unfold thS
      rw [if_neg (fun c => q c.1)]
theorem th_high {x y kind : Int} {path : ByteArray} {A : List Ev} (h1 : ∀ e ∈ A, e.v ≤ x) (h2 : ∀ e ∈ A, e.v ≤ y) : ∀ out : List ByteArray, A.foldl (thS x kind path) out = A.foldl (thS y kind path) out := by
  induction A with
  | nil => exact fun _ => rfl
  | cons a r ih =>
    intro out
    rw [List.foldl_cons, List.foldl_cons, ih (fun e he => h1 e (by simp [he])) (fun e he => h2 e (by simp [he]))]
    congr 1
    unfold thS
    have a1 := h1 a (by simp)
    have a2 := h2 a (by simp)
    simp only [a1, a2, true_and]
theorem rp_th {hi kind : Int} {path : ByteArray} (B : List Ev) (hB : ∀ e ∈ B, e.v ≤ hi) : ∀ ls ms : List ByteArray, (∀ t, t ∈ ls ↔ t ∈ ms) → ∀ t, t ∈ rpL kind path ls (B.filter fun e => L.underB e.p path) ↔ t ∈ B.foldl (thS hi kind path) ms := by
  induction B with
  | nil => exact fun ls ms h t => h t
  | cons a r ih =>
    intro ls ms h
    have hr := ih (fun e he => hB e (by simp [he]))
    have ha := hB a (by simp)
    by_cases hu : L.underB a.p path = true
    · rw [List.filter_cons_of_pos (by simpa using hu), List.foldl_cons]
      unfold rpL
      rw [List.foldl_cons]
      refine hr _ _ fun t => ?_
      by_cases hk : a.k = kind
      · have r1 : rpS kind path ls a = if a.g = true then ls.filter (fun t => decide (t ≠ tx a)) else ls ++ [tx a] := by unfold rpS; rw [if_pos ⟨hk, hu⟩]
        have r2 : thS hi kind path ms a = ms.filter (fun t => decide (t ≠ tx a)) ++ (if a.g = true then [] else [tx a]) := by unfold thS; rw [if_pos ⟨ha, hk, hu⟩]
        rw [r1, r2]
        by_cases hg : a.g = true
        · rw [if_pos hg, if_pos hg, List.append_nil, List.mem_filter, List.mem_filter, h t]
        · rw [if_neg hg, if_neg hg]
          simp only [List.mem_append, List.mem_singleton, List.mem_filter, h t, decide_eq_true_eq]
          by_cases e : t = tx a
          · simp [e]
          · simp [e]
      · have r1 : rpS kind path ls a = ls := by unfold rpS; rw [if_neg (fun q => hk q.1)]
        have r2 : thS hi kind path ms a = ms := by unfold thS; rw [if_neg (fun q => hk q.2.1)]
        rw [r1, r2]
        exact h t
    · rw [List.filter_cons_of_neg (by simpa using hu), List.foldl_cons]
      refine hr _ _ fun t => ?_
      have r2 : thS hi kind path ms a = ms := by unfold thS; rw [if_neg (fun q => hu q.2.2)]
      rw [r2]
      exact h t
theorem sorted_split {A : List Ev} (h : A.Pairwise (fun a b => a.v ≤ b.v)) (x : Int) : A = A.filter (le x) ++ A.filter (gt x) := by
  rw [← take_upN A x h, ← drop_upN A x h, List.take_append_drop]
theorem Pu.enough {f : Int} {s : St} {A : List Ev} (h : Pu f s A) {fr : Int} (hf : s.lo ≤ fr) (kind : Int) (path : ByteArray) : ∀ t, t ∈ rpL kind path (thL fr kind path A) (Wt.inL s fr path) ↔ t ∈ thL s.hi kind path A := by
  have e1 : Wt.inL s fr path = (A.filter (gt fr)).filter (fun e => L.underB e.p path) := by
    rw [h.inL hf, List.filter_filter]
    congr 1
    funext e
    rw [Bool.and_comm]
  have e2 : thL s.hi kind path A = (A.filter (gt fr)).foldl (thS s.hi kind path) (thL fr kind path A) := by
    have hs := sorted_split h.so fr
    have e3 : thL fr kind path A = (A.filter (le fr)).foldl (thS s.hi kind path) [] := by
      unfold thL
      rw [th_le]
      exact th_high (fun e he => by simpa using (List.mem_filter.1 he).2) (fun e he => (h.r e (List.mem_filter.1 he).1).2.1) []
    rw [e3, ← List.foldl_append, ← hs]
    rfl
  intro t
  rw [e1, e2]
  exact rp_th _ (fun e he => (h.r e (List.mem_filter.1 he).1).2.1) _ _ (fun _ => Iff.rfl) t
theorem Ri.len {F ls : List ByteArray} (h : Ri F ls) (hn : ls.Nodup) : F.length = ls.length :=
  ((List.perm_ext_iff_of_nodup (h.1.imp fun {a b} hab e => by subst e; exact absurd hab (List.lt_irrefl _)) hn).2 h.2).length_eq
end Wt
end Go.Proofs.YtoocpbpdoaplgaaDoor
