/-
  Events and hubs as data: what Push keeps, what Since tells, piece by piece.
-/
import Derived.Test.YtfkoiehnkelpoaaDoorLUnderA
namespace Go.Proofs.YtfkoiehnkelpoaaDoor
namespace Wt
structure Ev where
  v : Int
  k : Int
  g : Bool
  p : ByteArray
  n : ByteArray
def Ev.z : Ev := ⟨0, 0, false, ⟨#[]⟩, ⟨#[]⟩⟩
def rightB (e : Ev) : Bool := decide (0 ≤ e.k) && (decide (e.k ≤ 4) && (decide (L.splitE e.p = 0) && (if e.k = 0 then decide (e.n.size = 0) else L.nameB e.n)))
structure St where
  lo : Int
  hi : Int
  es : List Ev
structure St.Ok (s : St) : Prop where
  b : 0 ≤ s.lo ∧ s.lo ≤ s.hi ∧ s.hi ≤ 1152921504606846976
  so : s.es.Pairwise (fun a b => a.v ≤ b.v)
  r : ∀ e ∈ s.es, s.lo < e.v ∧ e.v ≤ s.hi
  n : s.es.length ≤ 128
def upN (l : List Ev) (x : Int) : Nat := (l.takeWhile (fun e => decide (e.v ≤ x))).length
abbrev le (x : Int) (e : Ev) : Bool := decide (e.v ≤ x)
abbrev gt (x : Int) (e : Ev) : Bool := decide (x < e.v)
theorem upN_le (l : List Ev) (x : Int) : upN l x ≤ l.length := List.Sublist.length_le (List.takeWhile_sublist _)
theorem take_upN (l : List Ev) (x : Int) (h : l.Pairwise (fun a b => a.v ≤ b.v)) : l.take (upN l x) = l.filter (le x) := by
  induction l with
  | nil => rfl
  | cons a r ih =>
    have hr := List.pairwise_cons.1 h
    unfold upN at ih ⊢
    by_cases q : a.v ≤ x
    · rw [List.takeWhile_cons_of_pos (by simpa using q), List.filter_cons_of_pos (by simpa using q), List.length_cons, List.take_succ_cons, ih hr.2]
    · rw [List.takeWhile_cons_of_neg (by simpa using q), List.filter_cons_of_neg (by simpa using q), List.length_nil, List.take_zero]
      rw [eq_comm, List.filter_eq_nil_iff]
      intro e he
      have := hr.1 e he
      simp; omega
theorem drop_upN (l : List Ev) (x : Int) (h : l.Pairwise (fun a b => a.v ≤ b.v)) : l.drop (upN l x) = l.filter (gt x) := by
  induction l with
  | nil => rfl
  | cons a r ih =>
    have hr := List.pairwise_cons.1 h
    unfold upN at ih ⊢
    by_cases q : a.v ≤ x
    · rw [List.takeWhile_cons_of_pos (by simpa using q), List.filter_cons_of_neg (by simp; omega), List.length_cons, List.drop_succ_cons, ih hr.2]
    · rw [List.takeWhile_cons_of_neg (by simpa using q), List.length_nil, List.drop_zero]
      rw [eq_comm, List.filter_eq_self]
      intro e he
      rcases List.mem_cons.1 he with rfl | he
      · simp; omega
      · have := hr.1 e he
        simp; omega
theorem upN_step (l : List Ev) (x : Int) (k : Nat) (hk : k ≤ upN l x) : (k < upN l x ↔ (k < l.length ∧ (l.getD k Ev.z).v ≤ x)) := by
  induction l generalizing k with
  | nil => simp [upN]
  | cons a r ih =>
    unfold upN at ih hk ⊢
    by_cases q : a.v ≤ x
    · rw [List.takeWhile_cons_of_pos (by simpa using q), List.length_cons] at hk ⊢
      cases k with
      | zero => simp [q]
      | succ k =>
        have := ih k (by omega)
        simp only [List.length_cons, List.getD_cons_succ]
        omega
    · rw [List.takeWhile_cons_of_neg (by simpa using q), List.length_nil] at hk ⊢
      have : k = 0 := by omega
      subst this
      simp [q]
/-- What Push leaves of all that was there: the versions above lo2. -/
structure Kp (s : St) (l : List Ev) (s' : St) : Prop where
  hi : s'.hi = s.hi + 1
  lo : s.lo ≤ s'.lo ∧ s'.lo ≤ s'.hi
  es : s'.es = (s.es ++ l).filter (gt s'.lo)
  n : s'.es.length ≤ 128
  m : s'.lo = s.lo ∨ 128 < ((s.es ++ l).filter (gt (s'.lo - 1))).length
def pushE (s : St) (l : List Ev) : Int :=
  if s.hi = 1152921504606846976 ∨ l.length = 0 ∨ ¬ (∀ e ∈ l, e.v = s.hi + 1 ∧ rightB e = true) then 1 else if 128 < l.length then 23 else 0
theorem Kp.ok {s s' : St} {l : List Ev} (h : Kp s l s') (o : s.Ok) (hs : s.hi < 1152921504606846976) (hl : ∀ e ∈ l, e.v = s.hi + 1) : s'.Ok := by
  obtain ⟨h1, h2, h3, h4, h5⟩ := h
  refine ⟨⟨by have := o.b; omega, h2.2, by omega⟩, ?_, ?_, h4⟩
  · rw [h3]
    refine List.Pairwise.filter _ (List.pairwise_append.2 ⟨o.so, ?_, fun a ha b hb => ?_⟩)
    · refine List.pairwise_of_forall_mem_list fun a ha b hb => ?_
      rw [hl a ha, hl b hb]; exact Int.le_refl _
    · have := o.r a ha; rw [hl b hb]; omega
  · intro e he
    rw [h3] at he
    obtain ⟨q1, q2⟩ := List.mem_filter.1 he
    refine ⟨by simpa using q2, ?_⟩
    rcases List.mem_append.1 q1 with q | q
    · have := o.r e q; omega
    · rw [hl e q]; omega
/-- What is looked at. -/
def inL (s : St) (ver : Int) (path : ByteArray) : List Ev := (s.es.drop (upN s.es ver)).filter (fun e => L.underB e.p path)
def whN (l : List Ev) (most : Int) : Nat := if (l.length : Int) ≤ most then l.length else upN l (max ((l.getD most.toNat Ev.z).v - 1) (l.getD 0 Ev.z).v)
def sinE (s : St) (ver : Int) (path : ByteArray) (most : Int) : Int :=
  if most < 1 ∨ 100 < most then 1 else if L.splitE path ≠ 0 then 41 else if ver < s.lo then 220 else if s.hi < ver then 221 else 0
def sinL (s : St) (ver : Int) (path : ByteArray) (most : Int) : List Ev := (inL s ver path).take (whN (inL s ver path) most)
def sinV (s : St) (ver : Int) (path : ByteArray) (most : Int) : Int :=
  if whN (inL s ver path) most < (inL s ver path).length then ((inL s ver path).getD (whN (inL s ver path) most - 1) Ev.z).v else s.hi
theorem inL_eq {s : St} (o : s.Ok) (ver : Int) (path : ByteArray) : inL s ver path = s.es.filter (fun e => gt ver e && L.underB e.p path) := by
  unfold inL
  rw [drop_upN _ _ o.so, List.filter_filter]
  congr 1
  funext e
  rw [Bool.and_comm]
theorem inL_sorted {s : St} (o : s.Ok) (ver : Int) (path : ByteArray) : (inL s ver path).Pairwise (fun a b => a.v ≤ b.v) := by
  rw [inL_eq o]; exact o.so.filter _
theorem whN_le (l : List Ev) (most : Int) : whN l most ≤ l.length := by
  unfold whN; split
  · exact Nat.le_refl _
  · exact upN_le _ _
theorem upN_pos (a : Ev) (r : List Ev) (x : Int) (h : a.v ≤ x) : 0 < upN (a :: r) x := by
  unfold upN; rw [List.takeWhile_cons_of_pos (by simpa using h)]; simp
theorem whN_pos (l : List Ev) (most : Int) (h : whN l most < l.length) : 0 < whN l most := by
  unfold whN at h ⊢
  split
  · rename_i q; rw [if_pos q] at h; omega
  · cases l with
    | nil => simp at h
    | cons a r => exact upN_pos a r _ (by simp; omega)
theorem getD_mem {l : List Ev} {i : Nat} (h : i < l.length) : l.getD i Ev.z ∈ l := by
  rw [List.getD_eq_getElem?_getD, List.getElem?_eq_getElem h]; exact List.getElem_mem h
theorem sorted_at {l : List Ev} (h : l.Pairwise (fun a b => a.v ≤ b.v)) {i j : Nat} (hij : i ≤ j) (hj : j < l.length) : (l.getD i Ev.z).v ≤ (l.getD j Ev.z).v := by
  rcases Nat.lt_or_ge i j with q | q
  · have := (List.pairwise_iff_getElem.1 h) i j (by omega) hj q
    rw [List.getD_eq_getElem?_getD, List.getD_eq_getElem?_getD, List.getElem?_eq_getElem hj, List.getElem?_eq_getElem (by omega)]
    exact this
  · have : i = j := by omega
    rw [this]; exact Int.le_refl _
/-- A take that is cut at a version's end. -/
structure Cut (I l : List Ev) (most v hi : Int) : Prop where
  eq : l = I.filter (le v)
  e : v = hi ∨ (0 < l.length ∧ (l.getD (l.length - 1) Ev.z).v = v)
  m : most < l.length → (l.getD 0 Ev.z).v = (l.getD (l.length - 1) Ev.z).v
theorem cut_of {s : St} (o : s.Ok) (ver : Int) (path : ByteArray) (most : Int) (hm : 1 ≤ most) : Cut (inL s ver path) (sinL s ver path most) most (sinV s ver path most) s.hi := by
  have hs := inL_sorted o ver path
  have hr : ∀ e ∈ inL s ver path, e.v ≤ s.hi := fun e he => by rw [inL_eq o] at he; exact (o.r e (List.mem_filter.1 he).1).2
  unfold sinL sinV
  generalize inL s ver path = I at *
  by_cases q : whN I most < I.length
  · rw [if_pos q]
    have h0 := whN_pos I most q
    have hq : ¬ (I.length : Int) ≤ most := fun c => by unfold whN at q; rw [if_pos c] at q; omega
    have hw : whN I most = upN I (max ((I.getD most.toNat Ev.z).v - 1) (I.getD 0 Ev.z).v) := by unfold whN; rw [if_neg hq]
    obtain ⟨x, hx⟩ : ∃ x, x = max ((I.getD most.toNat Ev.z).v - 1) (I.getD 0 Ev.z).v := ⟨_, rfl⟩
    rw [← hx] at hw
    have hlen : (I.take (whN I most)).length = whN I most := by rw [List.length_take]; omega
    have hlast : ((I.take (whN I most)).getD ((I.take (whN I most)).length - 1) Ev.z) = I.getD (whN I most - 1) Ev.z := by
      rw [hlen, List.getD_eq_getElem?_getD, List.getD_eq_getElem?_getD, List.getElem?_take, if_pos (by omega)]
    have hfst : ((I.take (whN I most)).getD 0 Ev.z) = I.getD 0 Ev.z := by
      rw [List.getD_eq_getElem?_getD, List.getD_eq_getElem?_getD, List.getElem?_take, if_pos (by omega)]
    have hle : (I.getD (whN I most - 1) Ev.z).v ≤ x := by
      have := (upN_step I x (whN I most - 1) (by omega)).1 (by omega)
      exact this.2
    refine ⟨?_, .inr ⟨by omega, by rw [hlast]⟩, ?_⟩
    · rw [hw, take_upN I x hs]
      refine List.filter_congr fun e he => ?_
      obtain ⟨i, hi, rfl⟩ := List.mem_iff_getElem.1 he
      have ei : I.getD i Ev.z = I[i] := by rw [List.getD_eq_getElem?_getD, List.getElem?_eq_getElem hi]; rfl
      rw [← hw, ← ei]
      simp only [decide_eq_decide]
      refine ⟨fun h => ?_, fun h => by omega⟩
      rcases Nat.lt_or_ge i (whN I most) with c | c
      · exact sorted_at hs (by omega) (by omega)
      · have h1 := sorted_at hs c hi
        have h2 : ¬ (I.getD (whN I most) Ev.z).v ≤ x := fun h => by
          have := (upN_step I x (whN I most) (by omega)).2 ⟨q, h⟩
          omega
        omega
    · intro hm2
      rw [hfst, hlast]
      rw [hlen] at hm2
      have h1 := sorted_at hs (Nat.zero_le (whN I most - 1)) (by omega)
      have h3 : (I.getD most.toNat Ev.z).v ≤ x := by
        have := (upN_step I x most.toNat (by omega)).1 (by omega)
        exact this.2
      have : x = (I.getD 0 Ev.z).v := by omega
      omega
  · rw [if_neg q]
    have hn : whN I most = I.length := by have := whN_le I most; omega
    rw [hn, List.take_length]
    refine ⟨?_, .inl rfl, ?_⟩
    · rw [eq_comm, List.filter_eq_self]
      intro e he; simpa using hr e he
    · intro hm2
      have hq : ¬ (I.length : Int) ≤ most := by omega
      have hw : whN I most = upN I (max ((I.getD most.toNat Ev.z).v - 1) (I.getD 0 Ev.z).v) := by unfold whN; rw [if_neg hq]
      obtain ⟨x, hx⟩ : ∃ x, x = max ((I.getD most.toNat Ev.z).v - 1) (I.getD 0 Ev.z).v := ⟨_, rfl⟩
      rw [← hx] at hw
      have h1 := sorted_at hs (Nat.zero_le (I.length - 1)) (by omega)
      have h2 : (I.getD (I.length - 1) Ev.z).v ≤ x := ((upN_step I x (I.length - 1) (by omega)).1 (by omega)).2
      have h3 : (I.getD most.toNat Ev.z).v ≤ x := ((upN_step I x most.toNat (by omega)).1 (by omega)).2
      omega
end Wt
end Go.Proofs.YtfkoiehnkelpoaaDoor
