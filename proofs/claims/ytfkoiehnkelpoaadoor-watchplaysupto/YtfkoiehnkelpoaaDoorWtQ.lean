/-
  Piece by piece; what was pushed.
-/
import Derived.Test.YtfkoiehnkelpoaaDoorWtP
namespace Go.Proofs.YtfkoiehnkelpoaaDoor
namespace Wt
theorem inL_gt {s : St} (o : s.Ok) {a b : Int} (h : a ≤ b) (path : ByteArray) : inL s b path = (inL s a path).filter (gt b) := by
  rw [inL_eq o, inL_eq o, List.filter_filter]
  refine List.filter_congr fun e _ => ?_
  by_cases q : b < e.v
  · have : a < e.v := by omega
    simp [gt, q, this]
  · simp [gt, q]
theorem le_gt (I : List Ev) (hs : I.Pairwise (fun a b => a.v ≤ b.v)) {a v : Int} (h : a ≤ v) : I.filter (le a) ++ (I.filter (gt a)).filter (le v) = I.filter (le v) := by
  induction I with
  | nil => rfl
  | cons x r ih =>
    have hr := List.pairwise_cons.1 hs
    by_cases q : x.v ≤ a
    · rw [List.filter_cons_of_pos (by simpa using q), List.filter_cons_of_neg (a := x) (p := gt a) (by simp; omega), List.filter_cons_of_pos (p := le v) (by simp; omega), List.cons_append, ih hr.2]
    · have hn : (x :: r).filter (le a) = [] := by
        rw [List.filter_eq_nil_iff]
        intro e he
        rcases List.mem_cons.1 he with rfl | he
        · simpa using q
        · have := hr.1 e he; simp; omega
      have hg : (x :: r).filter (gt a) = x :: r := by
        rw [List.filter_eq_self]
        intro e he
        rcases List.mem_cons.1 he with rfl | he
        · simp; omega
        · have := hr.1 e he; simp; omega
      rw [hn, hg, List.nil_append]
theorem sinV_ge {s : St} (o : s.Ok) (ver : Int) (path : ByteArray) (most : Int) (hv : ver ≤ s.hi) : ver ≤ sinV s ver path most ∧ sinV s ver path most ≤ s.hi := by
  unfold sinV
  split
  · rename_i q
    have h := getD_mem (l := inL s ver path) (i := whN (inL s ver path) most - 1) (by omega)
    rw [inL_eq o] at h
    have h1 := List.mem_filter.1 h
    have h2 := o.r _ h1.1
    rw [← inL_eq o] at h1 h2
    have h3 := h1.2
    simp only [gt, Bool.and_eq_true, decide_eq_true_eq] at h3
    omega
  · exact ⟨hv, Int.le_refl _⟩
/-- Behind n pieces all up to the version x is told. -/
structure Pc (s : St) (ver : Int) (path : ByteArray) (n : Nat) (x : Int) (all : List Ev) : Prop where
  b : ver ≤ x ∧ x ≤ s.hi
  a : all = (inL s ver path).filter (le x)
  n : n ≤ all.length
theorem Pc.zero {s : St} (o : s.Ok) {ver : Int} (path : ByteArray) (h : ver ≤ s.hi) : Pc s ver path 0 ver [] := by
  refine ⟨⟨Int.le_refl _, h⟩, ?_, Nat.le_refl _⟩
  rw [eq_comm, List.filter_eq_nil_iff]
  intro e he
  rw [inL_eq o] at he
  have := (List.mem_filter.1 he).2
  simp at this ⊢
  omega
theorem Pc.app {s : St} (o : s.Ok) {ver x most : Int} {path : ByteArray} {n : Nat} {all : List Ev} (h : Pc s ver path n x all) (hm : 1 ≤ most) :
    all ++ sinL s x path most = (inL s ver path).filter (le (sinV s x path most)) := by
  have hc := cut_of o x path most hm
  have hg := sinV_ge o x path most h.b.2
  rw [hc.eq, inL_gt o h.b.1, h.a]
  exact le_gt _ (inL_sorted o _ _) hg.1
theorem Pc.done {s : St} (o : s.Ok) {ver x most : Int} {path : ByteArray} {n : Nat} {all : List Ev} (h : Pc s ver path n x all) (hm : 1 ≤ most) (he : sinV s x path most = s.hi) :
    all ++ sinL s x path most = inL s ver path := by
  rw [h.app o hm, he, List.filter_eq_self]
  intro e q
  rw [inL_eq o] at q
  simpa using (o.r e (List.mem_filter.1 q).1).2
theorem Pc.next {s : St} (o : s.Ok) {ver x most : Int} {path : ByteArray} {n : Nat} {all : List Ev} (h : Pc s ver path n x all) (hm : 1 ≤ most) (he : sinV s x path most ≠ s.hi) :
    0 < (sinL s x path most).length ∧ ((sinL s x path most).getD ((sinL s x path most).length - 1) Ev.z).v = sinV s x path most ∧ Pc s ver path (n + 1) (sinV s x path most) (all ++ sinL s x path most) := by
  have hc := cut_of o x path most hm
  have hg := sinV_ge o x path most h.b.2
  rcases hc.e with q | ⟨q1, q2⟩
  · exact absurd q he
  · refine ⟨q1, q2, ⟨by have := h.b; omega, hg.2⟩, h.app o hm, ?_⟩
    rw [List.length_append]; have := h.n; omega
theorem Pc.few {s : St} (o : s.Ok) {ver x : Int} {path : ByteArray} {n : Nat} {all : List Ev} (h : Pc s ver path n x all) : n ≤ 128 ∧ all.length ≤ 128 := by
  have h1 : all.length ≤ s.es.length := by
    rw [h.a, inL_eq o]
    exact Nat.le_trans (List.length_filter_le _ _) (List.length_filter_le _ _)
  have := o.n; have := h.n; omega
theorem sinL_len {s : St} (o : s.Ok) (ver : Int) (path : ByteArray) (most : Int) : (sinL s ver path most).length ≤ 128 := by
  unfold sinL
  rw [List.length_take, inL_eq o]
  have := List.length_filter_le (fun e => gt ver e && L.underB e.p path) s.es
  have := o.n; omega
theorem sinL_mem {s : St} (o : s.Ok) {ver : Int} {path : ByteArray} {most : Int} {e : Ev} (h : e ∈ sinL s ver path most) : ver < e.v ∧ e ∈ s.es := by
  have h1 := List.mem_of_mem_take h
  rw [inL_eq o] at h1
  have h2 := List.mem_filter.1 h1
  refine ⟨?_, h2.1⟩
  have := h2.2; simp at this; exact this.1
theorem sinL_last {s : St} (o : s.Ok) {ver : Int} {path : ByteArray} {most : Int} (hm : 1 ≤ most) {e : Ev} (h : e ∈ sinL s ver path most) : e.v ≤ sinV s ver path most := by
  rw [(cut_of o ver path most hm).eq] at h
  simpa using (List.mem_filter.1 h).2
/-- A hub behind pushes: all that it took, from a version on. -/
structure Pu (f : Int) (s : St) (A : List Ev) : Prop where
  ok : s.Ok
  so : A.Pairwise (fun a b => a.v ≤ b.v)
  r : ∀ e ∈ A, f < e.v ∧ e.v ≤ s.hi ∧ rightB e = true
  es : s.es = A.filter (gt s.lo)
  lo : f ≤ s.lo
  m : s.lo = f ∨ 128 < (A.filter (gt (s.lo - 1))).length
theorem Pu.start {f : Int} (h : 0 ≤ f) (h2 : f ≤ 1152921504606846976) : Pu f ⟨f, f, []⟩ [] :=
  ⟨⟨⟨h, Int.le_refl _, h2⟩, List.Pairwise.nil, (fun e he => by simp at he), by simp⟩, List.Pairwise.nil, (fun e he => by simp at he), rfl, Int.le_refl _, .inl rfl⟩
theorem filter_gt_gt (A : List Ev) {a b : Int} (h : a ≤ b) : (A.filter (gt a)).filter (gt b) = A.filter (gt b) := by
  rw [List.filter_filter]
  refine List.filter_congr fun e _ => ?_
  by_cases q : b < e.v
  · have : a < e.v := by omega
    simp [gt, q, this]
  · simp [gt, q]
theorem Pu.push {f : Int} {s s' : St} {A l : List Ev} (h : Pu f s A) (k : Kp s l s') (hs : s.hi < 1152921504606846976) (hl : ∀ e ∈ l, e.v = s.hi + 1 ∧ rightB e = true) : Pu f s' (A ++ l) := by
  have hok := k.ok h.ok hs (fun e he => (hl e he).1)
  have hlo := h.lo
  have ob := h.ok.b
  have e1 : s.es ++ l = (A ++ l).filter (gt s.lo) := by
    rw [List.filter_append, h.es]
    congr 1
    rw [eq_comm, List.filter_eq_self]
    intro e he
    have := (hl e he).1
    simp; omega
  refine ⟨hok, ?_, ?_, ?_, by have := k.lo.1; omega, ?_⟩
  · refine List.pairwise_append.2 ⟨h.so, ?_, fun a ha b hb => ?_⟩
    · refine List.pairwise_of_forall_mem_list fun a ha b hb => ?_
      rw [(hl a ha).1, (hl b hb).1]; exact Int.le_refl _
    · have := h.r a ha; have := (hl b hb).1; omega
  · intro e he
    have := k.hi
    rcases List.mem_append.1 he with q | q
    · have := h.r e q; exact ⟨this.1, by omega, this.2.2⟩
    · have := hl e q; exact ⟨by omega, by omega, this.2⟩
  · rw [k.es, e1, filter_gt_gt _ k.lo.1]
  · have sub : ∀ x, ((s.es ++ l).filter (gt x)).length ≤ ((A ++ l).filter (gt x)).length := fun x => by
      rw [e1, List.filter_filter, List.filter_congr (q := fun a => gt s.lo a && gt x a) (fun e _ => Bool.and_comm _ _), ← List.filter_filter]
      exact List.length_filter_le _ _
    rcases k.m with q | q
    · rcases h.m with c | c
      · exact .inl (q.trans c)
      · right
        rw [q, List.filter_append, List.length_append]
        omega
    · right
      have := sub (s'.lo - 1)
      omega
theorem gt_pred (A : List Ev) (x : Int) : (A.filter (gt (x - 1))).length = (A.filter (gt x)).length + (A.filter (fun e => decide (e.v = x))).length := by
  induction A with
  | nil => rfl
  | cons a r ih =>
    rcases Int.lt_trichotomy a.v x with q | q | q
    · rw [List.filter_cons_of_neg (by simp; omega), List.filter_cons_of_neg (by simp; omega), List.filter_cons_of_neg (by simp; omega)]; exact ih
    · rw [List.filter_cons_of_pos (by simp; omega), List.filter_cons_of_neg (by simp; omega), List.filter_cons_of_pos (by simp; omega), List.length_cons, List.length_cons, ih]; omega
    · rw [List.filter_cons_of_pos (by simp; omega), List.filter_cons_of_pos (by simp; omega), List.filter_cons_of_neg (by simp; omega), List.length_cons, List.length_cons, ih]; omega
/-- What lies in a path, of all that was pushed. -/
theorem Pu.inL {f : Int} {s : St} {A : List Ev} (h : Pu f s A) {ver : Int} (hv : s.lo ≤ ver) (path : ByteArray) : inL s ver path = A.filter (fun e => gt ver e && L.underB e.p path) := by
  rw [inL_eq h.ok, h.es, List.filter_filter]
  refine List.filter_congr fun e _ => ?_
  by_cases q : ver < e.v
  · have : s.lo < e.v := by omega
    simp [gt, q, this]
  · simp [gt, q]
end Wt
end Go.Proofs.YtfkoiehnkelpoaaDoor
