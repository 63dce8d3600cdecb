/-
  LeHd, LeHw, LeHp, LeHc, LeSt, joined.
-/
import Derived.Test.YtodfmnbfbndkhaaGreatDoorLeZm
import Derived.Test.YtodfmnbfbndkhaaGreatDoorLUnderA
section S0
namespace Go.Proofs.YtodfmnbfbndkhaaGreatDoor
open Go.RowKit Go.Sort
namespace Le
variable {f : Ky → Int} {hs : List Ob} {i : Nat} {o p : Ob}
/-- What Change answers, and leaves. -/
noncomputable def chE (f : Ky → Int) (o p : Ob) : Int := if mvE false f o ≠ 0 then mvE false f o else mvE true (mvF false f o) p
noncomputable def chG (f : Ky → Int) (o p : Ob) : Ky → Int := if chE f o p = 0 then mvF true (mvF false f o) p else f
/-- What was released may be charged again: then all is as it was. -/
theorem mv_fwd (hz : PSz o.ps) (hf : ∀ x, f x ≤ MX) (h : mvE false f o = 0) : mvE true (mvF false f o) o = 0 ∧ mvF true (mvF false f o) o = f := by
  obtain ⟨h1, _, _⟩ := mv_yes h
  have key : mvE true (mvF false f o) o = 0 := by
    unfold mvE
    rw [if_neg (by simp [h1])]
    refine chk_zero.2 fun e he => ?_
    rw [mv_at hz h, shv_mem (shOk_any o hz).nd he]
    have := hf e.1
    have hs : sg false = -1 := rfl
    rw [hs]
    unfold bec
    rw [if_pos rfl, if_neg (by omega)]
  refine ⟨key, ?_⟩
  funext x
  rw [mv_at hz key, mv_at hz h]
  unfold sg
  simp
  omega
theorem shv_nn (hz : PSz o.ps) (x : Ky) : 0 ≤ shv (shR o) x := shv_pos (fun e he => ((shOk_any o hz).ok e he).2.1) x
/-- Objects that are held: each can be charged. -/
structure Hs (hs : List Ob) : Prop where
  e : ∀ o ∈ hs, shE o = 0
  z : ∀ o ∈ hs, PSz o.ps
theorem Hs.nil : Hs [] := ⟨fun o h => by simp at h, fun o h => by simp at h⟩
theorem tot_nil : tot [] = fun _ => 0 := rfl
theorem tot_nn (h : ∀ o ∈ hs, PSz o.ps) (x : Ky) : 0 ≤ tot hs x := by
  induction hs with
  | nil => exact Int.le_refl _
  | cons a r ih =>
    rw [tot]
    have h1 := shv_nn (h a (by simp)) x
    have h2 := ih (fun o ho => h o (by simp [ho]))
    omega
theorem tot_app (a c : List Ob) (x : Ky) : tot (a ++ c) x = tot a x + tot c x := by
  induction a with
  | nil => simp [tot]
  | cons y r ih => rw [List.cons_append, tot, tot, ih]; omega
theorem tot_del_at : ∀ (hs : List Ob) (i : Nat) (hi : i < hs.length) (x : Ky), tot hs x = tot (hs.eraseIdx i) x + shv (shR hs[i]) x
  | a :: r, 0, _, x => by rw [List.eraseIdx_cons_zero, tot, List.getElem_cons_zero]; omega
  | a :: r, i + 1, hi, x => by
    have := tot_del_at r i (by simpa using hi) x
    rw [List.eraseIdx_cons_succ, tot, tot, List.getElem_cons_succ, this]
    omega
theorem tot_set_at : ∀ (hs : List Ob) (i : Nat) (_ : i < hs.length) (p : Ob) (x : Ky), tot (hs.set i p) x = tot (hs.eraseIdx i) x + shv (shR p) x
  | a :: r, 0, _, p, x => by rw [List.eraseIdx_cons_zero, List.set_cons_zero, tot]; omega
  | a :: r, i + 1, hi, p, x => by
    have := tot_set_at r i (by simpa using hi) p x
    rw [List.eraseIdx_cons_succ, List.set_cons_succ, tot, tot, this]
    omega
theorem Hs.add (H : Hs hs) (hz : PSz o.ps) (h : shE o = 0) : Hs (hs ++ [o]) :=
  ⟨fun y hy => by rcases List.mem_append.1 hy with q | q; exact H.e y q; rw [List.mem_singleton.1 q]; exact h, fun y hy => by rcases List.mem_append.1 hy with q | q; exact H.z y q; rw [List.mem_singleton.1 q]; exact hz⟩
theorem Hs.del (H : Hs hs) (i : Nat) : Hs (hs.eraseIdx i) := ⟨fun y hy => H.e y (List.mem_of_mem_eraseIdx hy), fun y hy => H.z y (List.mem_of_mem_eraseIdx hy)⟩
theorem Hs.set (H : Hs hs) (i : Nat) (hz : PSz o.ps) (h : shE o = 0) : Hs (hs.set i o) :=
  ⟨fun y hy => by rcases List.mem_or_eq_of_mem_set hy with q | q; exact H.e y q; rw [q]; exact h, fun y hy => by rcases List.mem_or_eq_of_mem_set hy with q | q; exact H.z y q; rw [q]; exact hz⟩
theorem tot_add (hz : PSz o.ps) (h : mvE true (tot hs) o = 0) : mvF true (tot hs) o = tot (hs ++ [o]) := by
  funext x
  rw [mv_at hz h, tot_snoc]
  unfold sg
  simp
/-- One that is held is released: never refused. -/
theorem tot_rel (H : Hs hs) (hi : i < hs.length) : mvE false (tot hs) hs[i] = 0 ∧ mvF false (tot hs) hs[i] = tot (hs.eraseIdx i) := by
  have hm := List.getElem_mem hi
  have hz := H.z _ hm
  have key : mvE false (tot hs) hs[i] = 0 := by
    unfold mvE
    rw [if_neg (by simp [H.e _ hm])]
    refine chk_zero.2 fun e he => ?_
    have h1 := tot_del_at hs i hi e.1
    rw [shv_mem (shOk_any _ hz).nd he] at h1
    have h2 := tot_nn (H.del i).z e.1
    unfold bec
    rw [if_neg (by decide), if_neg (by omega)]
  refine ⟨key, ?_⟩
  funext x
  rw [mv_at hz key, tot_del_at hs i hi x]
  unfold sg
  simp
  omega
theorem ch_code (H : Hs hs) (hi : i < hs.length) (p : Ob) : chE (tot hs) hs[i] p = mvE true (tot (hs.eraseIdx i)) p := by
  obtain ⟨h1, h2⟩ := tot_rel H hi
  unfold chE
  rw [if_neg (by simp [h1]), h2]
/-- One that is held is changed. -/
theorem tot_chg (H : Hs hs) (hi : i < hs.length) (hz : PSz p.ps) (h : chE (tot hs) hs[i] p = 0) : chG (tot hs) hs[i] p = tot (hs.set i p) ∧ shE p = 0 := by
  obtain ⟨h1, h2⟩ := tot_rel H hi
  have h3 := h
  rw [ch_code H hi] at h3
  unfold chG
  rw [if_pos h, h2]
  refine ⟨?_, (mv_yes h3).1⟩
  funext x
  rw [mv_at hz h3, tot_set_at hs i hi p x]
  unfold sg
  simp
theorem ch_no (h : chE f o p ≠ 0) : chG f o p = f := by unfold chG; rw [if_neg h]
/-- The first that has this one's path and name. -/
def plc (hs : List Ob) (o : Ob) : Nat := hs.findIdx (fun h => decide (h.p = o.p) && decide (h.n = o.n))
open Classical in
/-- What is held behind a step. -/
noncomputable def stp (hs : List Ob) (k : Int) (o : Ob) : List Ob :=
  if h : plc hs o < hs.length then
    (if k = 2 then hs.eraseIdx (plc hs o) else if chE (tot hs) hs[plc hs o] o = 0 then hs.set (plc hs o) o else hs)
  else if hs.length < 40 ∧ mvE true (tot hs) o = 0 then hs ++ [o] else hs
theorem stp_len (k : Int) : (stp hs k o).length ≤ 40 ∨ (stp hs k o).length ≤ hs.length := by
  unfold stp
  split
  · split
    · right; exact Nat.le_trans (List.length_eraseIdx_le ..) (Nat.le_refl _)
    · split
      · right; rw [List.length_set]; exact Nat.le_refl _
      · right; exact Nat.le_refl _
  · split
    · rename_i h; left; rw [List.length_append, List.length_singleton]; omega
    · right; exact Nat.le_refl _
theorem Hs.stp (H : Hs hs) (hz : PSz o.ps) (k : Int) : Hs (stp hs k o) := by
  unfold Le.stp
  split
  · rename_i hi
    split
    · exact H.del _
    · split
      · rename_i h; exact H.set _ hz (tot_chg H hi hz h).2
      · exact H
  · split
    · rename_i h; exact H.add hz (mv_yes h.2).1
    · exact H
end Le
end Go.Proofs.YtodfmnbfbndkhaaGreatDoor
end S0

section S1
namespace Go.Proofs.YtodfmnbfbndkhaaGreatDoor
open Go.RowKit Go.Sort
namespace Le
/-- What a list of amounts tells of a name. -/
def amt : List Am → ByteArray → Int
  | [], _ => 0
  | u :: r, n => (if u.n = n then u.v else 0) + amt r n
theorem amt_app (l m : List Am) (n : ByteArray) : amt (l ++ m) n = amt l n + amt m n := by
  induction l with
  | nil => simp [amt]
  | cons u r ih => rw [List.cons_append, amt, amt, ih]; omega
theorem amt_none {l : List Am} {n : ByteArray} (h : n ∉ l.map (·.n)) : amt l n = 0 := by
  induction l with
  | nil => rfl
  | cons u r ih =>
    simp only [List.map_cons, List.mem_cons, not_or] at h
    rw [amt, if_neg (fun e => h.1 e.symm), ih h.2]
    rfl
theorem amt_at {l : List Am} (hn : (l.map (·.n)).Nodup) {u : Am} (hu : u ∈ l) : amt l u.n = u.v := by
  induction l with
  | nil => simp at hu
  | cons y r ih =>
    simp only [List.map_cons, List.nodup_cons] at hn
    rcases List.mem_cons.1 hu with rfl | q
    · rw [amt, if_pos rfl, amt_none hn.1]; omega
    · have : y.n ≠ u.n := fun z => hn.1 (by rw [z]; exact List.mem_map.2 ⟨u, q, rfl⟩)
      rw [amt, if_neg this, ih hn.2 q]; omega
theorem amt_nn {l : List Am} (h : ∀ u ∈ l, 0 ≤ u.v) (n : ByteArray) : 0 ≤ amt l n := by
  induction l with
  | nil => exact Int.le_refl _
  | cons u r ih =>
    rw [amt]
    have h1 := h u (by simp)
    have h2 := ih (fun e he => h e (by simp [he]))
    split <;> omega
theorem amt_take {l : List Am} (h : ∀ u ∈ l, 0 ≤ u.v) (n : ByteArray) (i : Nat) : amt (l.take i) n ≤ amt l n := by
  have e : amt l n = amt (l.take i) n + amt (l.drop i) n := by rw [← amt_app, List.take_append_drop]
  have := amt_nn (l := l.drop i) (fun u hu => h u (List.mem_of_mem_drop hu)) n
  omega
theorem amt_snoc {l : List Am} {i : Nat} (h : i < l.length) (n : ByteArray) : amt (l.take (i + 1)) n = amt (l.take i) n + if (l[i]).n = n then (l[i]).v else 0 := by
  rw [List.take_add_one, List.getElem?_eq_getElem h, amt_app]
  simp [amt]
open Classical in
theorem shv_eq {o : Ob} (hz : PSz o.ps) (x : Ky) : shv (shR o) x = if x.p ∈ lineP o.p ∧ (x.k, x.a) ∈ canS o then amt (usesL o.ps) x.r else 0 := by
  by_cases h : x.p ∈ lineP o.p ∧ (x.k, x.a) ∈ canS o
  · rw [if_pos h]
    by_cases hr : x.r ∈ (usesL o.ps).map (·.n)
    · obtain ⟨u, hu, e⟩ := List.mem_map.1 hr
      have hm : (x, u.v) ∈ shR o := mem_shL.2 ⟨x.p, h.1, (x.k, x.a), h.2, u, hu, by rw [e]⟩
      have q := shv_mem (shOk_any o hz).nd hm
      simp only at q
      rw [q, ← e, amt_at (uses_nodup o.ps) hu]
    · rw [amt_none hr]
      refine shv_no fun q => hr ?_
      obtain ⟨e, he, rfl⟩ := List.mem_map.1 q
      obtain ⟨p, _, s, _, u, hu, rfl⟩ := mem_shL.1 he
      exact List.mem_map.2 ⟨u, hu, rfl⟩
  · rw [if_neg h]
    refine shv_no fun q => h ?_
    obtain ⟨e, he, rfl⟩ := List.mem_map.1 q
    obtain ⟨p, hp, s, hs, u, _, rfl⟩ := mem_shL.1 he
    exact ⟨hp, hs⟩
/-- What the first objects have under a place, by the loop of the laws: path, scope and then the amounts. -/
theorem tot_le {hs : List Ob} (hz : ∀ o ∈ hs, PSz o.ps) (x : Ky) (i : Nat) : tot (hs.take i) x ≤ tot hs x := by
  have e : tot hs x = tot (hs.take i) x + tot (hs.drop i) x := by rw [← tot_app, List.take_append_drop]
  have := tot_nn (hs := hs.drop i) (fun u hu => hz u (List.mem_of_mem_drop hu)) x
  omega
theorem tot_step {hs : List Ob} {i : Nat} (h : i < hs.length) (x : Ky) : tot (hs.take (i + 1)) x = tot (hs.take i) x + shv (shR hs[i]) x := by
  rw [List.take_add_one, List.getElem?_eq_getElem h]
  exact tot_snoc _ _ _
/-- A valid scope holds an object just if it is one of its scopes. -/
theorem all_in {k a : Int} (h : validB k a = true) : (k, a) ∈ allS := by
  have q := of_decide_eq_true h
  rcases q with ⟨h0, h5, rfl⟩ | ⟨rfl, h0, h9⟩
  · have key : k = 0 ∨ k = 1 ∨ k = 2 ∨ k = 3 ∨ k = 4 := by omega
    rcases key with rfl | rfl | rfl | rfl | rfl <;> decide
  · have key : a = 0 ∨ a = 1 ∨ a = 2 ∨ a = 3 ∨ a = 4 ∨ a = 5 ∨ a = 6 ∨ a = 7 ∨ a = 8 ∨ a = 9 := by omega
    rcases key with rfl | rfl | rfl | rfl | rfl | rfl | rfl | rfl | rfl | rfl <;> decide
theorem in_can (o : Ob) (k a : Int) : inB o k a = decide ((k, a) ∈ canS o) := by
  rw [← acc_filter]
  by_cases h : inB o k a = true
  · rw [h]
    refine (decide_eq_true (List.mem_filter.2 ⟨all_in ?_, h⟩)).symm
    unfold inB at h
    rw [Bool.and_eq_true] at h
    exact h.1
  · rw [Bool.eq_false_iff.2 h]
    refine (decide_eq_false (fun q => ?_)).symm
    have q2 := (List.mem_filter.1 q).2
    exact h q2
end Le
end Go.Proofs.YtodfmnbfbndkhaaGreatDoor
end S1

section S2
namespace Go.Proofs.YtodfmnbfbndkhaaGreatDoor
open Go.RowKit Go.Sort
namespace Le
theorem mem_line {p x : ByteArray} : x ∈ lineP p ↔ ∃ ts, L.splitO p = some ts ∧ ∃ k, k ≤ ts.length ∧ x = L.pth (ts.take k) := by
  unfold lineP
  cases h : L.splitO p with
  | none => simp
  | some ts =>
    simp only [Option.some.injEq, exists_eq_left']
    unfold L.lineOf L.lineTo
    rw [List.mem_map]
    constructor
    · rintro ⟨j, hj, rfl⟩
      exact ⟨ts.length - j, by omega, rfl⟩
    · rintro ⟨k, hk, rfl⟩
      exact ⟨ts.length - k, List.mem_range.2 (by omega), by rw [show ts.length - (ts.length - k) = k by omega]⟩
theorem line_under (path p : ByteArray) : p ∈ lineP path ↔ L.underB path p = true := by
  rw [mem_line]
  cases h : L.splitO path with
  | none =>
    rw [(L.under_none h).1]
    simp
  | some ts =>
    obtain ⟨rfl, hg⟩ := L.splitO_some h
    rw [L.under_line hg]
    simp only [Option.some.injEq, exists_eq_left']
/-- The path right above. -/
def parO (p : ByteArray) : Option ByteArray := match L.splitO p with
  | some ts => if ts = [] then none else some (L.pth ts.dropLast)
  | none => none
theorem par_good {ts : List ByteArray} (hg : L.Good ts) : parO (L.pth ts) = if ts = [] then none else some (L.pth ts.dropLast) := by
  unfold parO
  rw [L.splitO_good hg]
theorem pth_inj {a b : List ByteArray} (ha : L.Good a) (hb : L.Good b) (h : L.pth a = L.pth b) : a = b := by
  have := L.splitO_good ha
  rw [h, L.splitO_good hb] at this
  exact (Option.some.inj this).symm
theorem par_take {ts : List ByteArray} (hg : L.Good ts) {k : Nat} (hk : k ≤ ts.length) : parO (L.pth (ts.take k)) = if k = 0 then none else some (L.pth (ts.take (k - 1))) := by
  rw [par_good (hg.take k)]
  by_cases h0 : k = 0
  · subst h0
    rw [if_pos rfl, if_pos (by simp)]
  · have hne : ts.take k ≠ [] := by
      intro e
      have := congrArg List.length e
      rw [List.length_take, List.length_nil] at this
      omega
    rw [if_neg hne, if_neg h0]
    have := L.dropLast_take ts (k - 1) (by omega)
    rw [show k - 1 + 1 = k by omega] at this
    rw [this]
/-- Whose line meets a path meets the one above. -/
theorem up_line {p q up : ByteArray} (h : parO q = some up) (hq : q ∈ lineP p) : up ∈ lineP p := by
  obtain ⟨ts, hs, k, hk, rfl⟩ := mem_line.1 hq
  obtain ⟨rfl, hg⟩ := L.splitO_some hs
  rw [par_take hg hk] at h
  split at h
  · exact absurd h (by simp)
  · rename_i h0
    exact mem_line.2 ⟨ts, hs, k - 1, by omega, (Option.some.inj h).symm⟩
/-- A line that goes on below a path has just one right below it. -/
theorem line_child {p up : ByteArray} (hu : up ∈ lineP p) (hn : p ≠ up) : ∃ q, q ∈ lineP p ∧ parO q = some up ∧ ∀ r ∈ lineP p, parO r = some up → r = q := by
  obtain ⟨ts, hs, k, hk, rfl⟩ := mem_line.1 hu
  obtain ⟨rfl, hg⟩ := L.splitO_some hs
  have hlt : k < ts.length := by
    rcases Nat.lt_or_ge k ts.length with q | q
    · exact q
    · exact absurd (by rw [List.take_of_length_le q]) hn
  refine ⟨L.pth (ts.take (k + 1)), mem_line.2 ⟨ts, hs, k + 1, hlt, rfl⟩, by rw [par_take hg hlt, if_neg (by omega)]; rfl, ?_⟩
  intro r hr hp
  obtain ⟨ts', hs', j, hj, rfl⟩ := mem_line.1 hr
  obtain rfl : ts' = ts := by rw [hs] at hs'; exact (Option.some.inj hs').symm
  rw [par_take hg hj] at hp
  split at hp
  · exact absurd hp (by simp)
  · rename_i h0
    have e := pth_inj (hg.take _) (hg.take _) (Option.some.inj hp)
    have := congrArg List.length e
    rw [List.length_take, List.length_take] at this
    rw [show j = k + 1 by omega]
theorem line_own {p up : ByteArray} (hn : p = up) : ∀ r ∈ lineP p, parO r ≠ some up := by
  intro r hr hp
  obtain ⟨ts, hs, j, hj, rfl⟩ := mem_line.1 hr
  obtain ⟨rfl, hg⟩ := L.splitO_some hs
  rw [par_take hg hj] at hp
  split at hp
  · exact absurd hp (by simp)
  · rename_i h0
    have e := pth_inj (hg.take _) hg ((Option.some.inj hp).trans hn.symm)
    have := congrArg List.length e
    rw [List.length_take] at this
    omega
/-- Parent of a path of a line. -/
theorem parent_line {p : ByteArray} {ts : List ByteArray} (hs : L.splitO p = some ts) (w : World) (hm : L.HasM w) :
    Calls Tryz.prog 17 #[.string p] w fun e w' => (∃ c : Int, e = .returned (.tuple #[.string ((parO p).getD ⟨#[]⟩), .int .i64 c]) ∧ (c = 0 ↔ parO p ≠ none)) ∧ Below w.heap.size w w' := by
  obtain ⟨rfl, hg⟩ := L.splitO_some hs
  rw [par_good hg]
  by_cases h : ts = []
  · subst h
    refine (L.parent_root w hm).mono ?_
    rintro e w' ⟨rfl, hb⟩
    exact ⟨⟨143, rfl, by simp⟩, hb⟩
  · refine (L.parent_any ts hg h w hm).mono ?_
    rintro e w' ⟨rfl, hb⟩
    rw [if_neg h]
    exact ⟨⟨0, rfl, by simp⟩, hb⟩
end Le
end Go.Proofs.YtodfmnbfbndkhaaGreatDoor
end S2

section S3
namespace Go.Proofs.YtodfmnbfbndkhaaGreatDoor
open Go.RowKit Go.Sort
namespace Le
variable {D : DataW Unit} {S : List Ur} {hs : List Ob} {x : Ky}
/-- A row right below a place. -/
def Cnd (u : Ur) (x : Ky) : Prop := parO u.1.x.p = some x.p ∧ u.1.x.k = x.k ∧ u.1.x.a = x.a ∧ u.1.x.r = x.r
open Classical in
noncomputable def rsum : List Ur → Ky → Int
  | [], _ => 0
  | u :: r, x => (if Cnd u x then u.1.v else 0) + rsum r x
open Classical in
noncomputable def osum (o : Ob) : List Ur → Ky → Int
  | [], _ => 0
  | u :: r, x => (if Cnd u x then shv (shR o) u.1.x else 0) + osum o r x
open Classical in
/-- What an object of the path itself has. -/
noncomputable def mine (o : Ob) (x : Ky) : Int := if o.p = x.p ∧ (x.k, x.a) ∈ canS o then amt (usesL o.ps) x.r else 0
noncomputable def msum : List Ob → Ky → Int
  | [], _ => 0
  | o :: r, x => mine o x + msum r x
theorem osum_zero {o : Ob} : ∀ {S : List Ur}, (∀ u ∈ S, Cnd u x → shv (shR o) u.1.x = 0) → osum o S x = 0
  | [], _ => rfl
  | u :: r, h => by
    rw [osum, osum_zero (S := r) (fun v hv => h v (by simp [hv]))]
    split
    · rename_i q; rw [h u (by simp) q]; rfl
    · rfl
theorem osum_one {o : Ob} {y : Ky} : ∀ {S : List Ur}, (S.map fun u => u.1.x).Nodup → (∀ u ∈ S, Cnd u x → u.1.x ≠ y → shv (shR o) u.1.x = 0) → ∀ u0 ∈ S, u0.1.x = y → Cnd u0 x → osum o S x = shv (shR o) y
  | [], _, _, u0, h0, _, _ => by simp at h0
  | u :: r, hn, h, u0, h0, he, hc => by
    simp only [List.map_cons, List.nodup_cons] at hn
    rw [osum]
    rcases List.mem_cons.1 h0 with rfl | q
    · rw [if_pos hc, he, osum_zero (S := r)]
      · omega
      · intro v hv hcv
        refine h v (by simp [hv]) hcv fun e => hn.1 ?_
        rw [he, ← e]
        exact List.mem_map.2 ⟨v, hv, rfl⟩
    · rw [osum_one hn.2 (fun v hv => h v (by simp [hv])) u0 q he hc]
      split
      · rename_i k
        rw [h u (by simp) k (fun e => hn.1 (by rw [e, ← he]; exact List.mem_map.2 ⟨u0, q, rfl⟩))]
        omega
      · omega
theorem own_line {o : Ob} (h : shE o = 0) : o.p ∈ lineP o.p := by
  unfold shE at h
  split at h
  · exact absurd h (by decide)
  · rename_i n
    cases hs : L.splitO o.p with
    | none => exact absurd (splitE_no hs) (by intro e; rw [e] at n; simp at n)
    | some ts =>
      refine mem_line.2 ⟨ts, hs, ts.length, Nat.le_refl _, ?_⟩
      rw [List.take_length]
      exact (L.splitO_some hs).1
/-- One object's part in it. -/
theorem climb_one (H : Li D S) (R : Rep D (tot hs)) (P : Hs hs) {o : Ob} (ho : o ∈ hs) : shv (shR o) x = osum o S x + mine o x := by
  have hz := P.z o ho
  have hd : (S.map fun u => u.1.x).Nodup := by
    rw [List.Nodup, List.pairwise_map]
    exact H.d.imp fun h e => h (by rw [e])
  have hle : ∀ y, shv (shR o) y ≤ tot hs y := fun y => by
    obtain ⟨i, hi, rfl⟩ := List.getElem_of_mem ho
    have h1 := tot_del_at hs i hi y
    have h2 := tot_nn (P.del i).z y
    omega
  by_cases hc : (x.k, x.a) ∈ canS o
  · by_cases hl : x.p ∈ lineP o.p
    · by_cases hp : o.p = x.p
      · rw [osum_zero]
        · unfold mine
          rw [shv_eq hz, if_pos ⟨hl, hc⟩, if_pos ⟨hp, hc⟩]
          omega
        · intro u _ hcu
          rw [shv_eq hz, if_neg (fun q => line_own hp _ q.1 hcu.1)]
      · obtain ⟨q, hq1, hq2, hq3⟩ := line_child hl hp
        have hm : mine o x = 0 := by unfold mine; rw [if_neg (fun q => hp q.1)]
        have e : shv (shR o) ⟨q, x.k, x.a, x.r⟩ = shv (shR o) x := by
          rw [shv_eq hz, shv_eq hz, if_pos ⟨hq1, hc⟩, if_pos ⟨hl, hc⟩]
        have off : ∀ u ∈ S, Cnd u x → u.1.x ≠ ⟨q, x.k, x.a, x.r⟩ → shv (shR o) u.1.x = 0 := by
          intro u _ hcu hne
          rw [shv_eq hz, if_neg]
          rintro ⟨h1, _⟩
          apply hne
          obtain ⟨⟨⟨up, uk, ua, ur⟩, uv⟩, un⟩ := u
          obtain ⟨c1, c2, c3, c4⟩ := hcu
          simp only at c1 c2 c3 c4 h1 ⊢
          rw [hq3 up h1 c1, c2, c3, c4]
        rw [hm, Int.add_zero]
        by_cases h0 : tot hs ⟨q, x.k, x.a, x.r⟩ = 0
        · have s0 : shv (shR o) ⟨q, x.k, x.a, x.r⟩ = 0 := by
            have a1 := hle ⟨q, x.k, x.a, x.r⟩
            have a2 := shv_nn hz ⟨q, x.k, x.a, x.r⟩
            omega
          rw [osum_zero, ← e, s0]
          intro u hu hcu
          by_cases hy : u.1.x = ⟨q, x.k, x.a, x.r⟩
          · rw [hy, s0]
          · exact off u hu hcu hy
        · obtain ⟨u0, hu0, e0⟩ := (H.m ⟨⟨q, x.k, x.a, x.r⟩, tot hs ⟨q, x.k, x.a, x.r⟩⟩).2 ((in_iff R _).2 ⟨rfl, h0⟩)
          have ex : u0.1.x = ⟨q, x.k, x.a, x.r⟩ := by rw [e0]
          rw [osum_one hd off u0 hu0 ex (by unfold Cnd; rw [ex]; exact ⟨hq2, rfl, rfl, rfl⟩), e]
    · have hm : mine o x = 0 := by
        unfold mine
        rw [if_neg (fun q => hl (by rw [← q.1]; exact own_line (P.e o ho)))]
      rw [hm, osum_zero, shv_eq hz, if_neg (fun q => hl q.1)]
      · rfl
      · intro u _ hcu
        rw [shv_eq hz, if_neg (fun q => hl (up_line hcu.1 q.1))]
  · have hm : mine o x = 0 := by unfold mine; rw [if_neg (fun q => hc q.2)]
    rw [hm, osum_zero, shv_eq hz, if_neg (fun q => hc q.2)]
    · rfl
    · intro u _ hcu
      rw [shv_eq hz, if_neg (fun q => hc (by rw [← hcu.2.1, ← hcu.2.2.1]; exact q.2))]
noncomputable def oall (S : List Ur) (x : Ky) : List Ob → Int
  | [] => 0
  | o :: r => osum o S x + oall S x r
open Classical in
noncomputable def rtot (l : List Ob) : List Ur → Ky → Int
  | [], _ => 0
  | u :: r, x => (if Cnd u x then tot l u.1.x else 0) + rtot l r x
theorem rtot_cons (o : Ob) (l : List Ob) : ∀ S : List Ur, rtot (o :: l) S x = osum o S x + rtot l S x
  | [] => rfl
  | u :: r => by
    rw [rtot, rtot, osum, rtot_cons o l r]
    split
    · rw [tot]; omega
    · omega
theorem rtot_nil : ∀ S : List Ur, rtot [] S x = 0
  | [] => rfl
  | u :: r => by
    rw [rtot, rtot_nil r]
    split <;> rfl
theorem rtot_all : ∀ l : List Ob, rtot l S x = oall S x l
  | [] => rtot_nil S
  | o :: l => by rw [rtot_cons, oall, rtot_all l]
theorem rtot_rsum {l : List Ob} : ∀ {S : List Ur}, (∀ u ∈ S, tot l u.1.x = u.1.v) → rtot l S x = rsum S x
  | [], _ => rfl
  | u :: r, h => by
    rw [rtot, rsum, rtot_rsum (S := r) (fun v hv => h v (by simp [hv])), h u (by simp)]
/-- The sum at a place: of the rows right below it, and of the objects of the path itself. -/
theorem climb (H : Li D S) (R : Rep D (tot hs)) (P : Hs hs) : tot hs x = rsum S x + msum hs x := by
  have h1 : ∀ l : List Ob, (∀ o ∈ l, o ∈ hs) → tot l x = oall S x l + msum l x := by
    intro l
    induction l with
    | nil => intro _; rfl
    | cons o r ih =>
      intro hl
      rw [tot, oall, msum, ih (fun o ho => hl o (by simp [ho])), climb_one H R P (hl o (by simp))]
      omega
  rw [h1 hs (fun _ h => h), ← rtot_all, rtot_rsum (fun u hu => ((li_mem H R u).1 hu).1)]
theorem rsum_nn : ∀ {S : List Ur}, (∀ u ∈ S, 0 ≤ u.1.v) → 0 ≤ rsum S x
  | [], _ => Int.le_refl _
  | u :: r, h => by
    rw [rsum]
    have h1 : 0 ≤ rsum r x := rsum_nn (fun v hv => h v (by simp [hv]))
    have h2 := h u (by simp)
    split <;> omega
theorem rsum_app (x : Ky) : ∀ (a b : List Ur), rsum (a ++ b) x = rsum a x + rsum b x
  | [], b => by simp [rsum]
  | u :: r, b => by rw [List.cons_append, rsum, rsum, rsum_app x r b]; omega
theorem msum_app (x : Ky) : ∀ (a b : List Ob), msum (a ++ b) x = msum a x + msum b x
  | [], b => by simp [msum]
  | u :: r, b => by rw [List.cons_append, msum, msum, msum_app x r b]; omega
theorem mine_nn {o : Ob} (hz : PSz o.ps) : 0 ≤ mine o x := by
  unfold mine
  split
  · exact amt_nn (fun u hu => ((uses_ok hz).2 u hu).2.1) _
  · exact Int.le_refl _
theorem msum_nn : ∀ {l : List Ob}, (∀ o ∈ l, PSz o.ps) → 0 ≤ msum l x
  | [], _ => Int.le_refl _
  | o :: r, h => by
    rw [msum]
    have h1 : 0 ≤ msum r x := msum_nn (fun v hv => h v (by simp [hv]))
    have h2 := mine_nn (x := x) (h o (by simp))
    omega
theorem rsum_take {S : List Ur} (h : ∀ u ∈ S, 0 ≤ u.1.v) (x : Ky) (i : Nat) : rsum (S.take i) x ≤ rsum S x := by
  have e : rsum S x = rsum (S.take i) x + rsum (S.drop i) x := by rw [← rsum_app, List.take_append_drop]
  have := rsum_nn (S := S.drop i) (x := x) (fun u hu => h u (List.mem_of_mem_drop hu))
  omega
theorem msum_take {l : List Ob} (h : ∀ o ∈ l, PSz o.ps) (x : Ky) (i : Nat) : msum (l.take i) x ≤ msum l x := by
  have e : msum l x = msum (l.take i) x + msum (l.drop i) x := by rw [← msum_app, List.take_append_drop]
  have := msum_nn (l := l.drop i) (x := x) (fun u hu => h u (List.mem_of_mem_drop hu))
  omega
/-- The one above has at least as much. -/
theorem up_le {up : ByteArray} (hz : ∀ o ∈ hs, PSz o.ps) (h : parO x.p = some up) : tot hs x ≤ tot hs ⟨up, x.k, x.a, x.r⟩ := by
  induction hs with
  | nil => exact Int.le_refl _
  | cons o r ih =>
    rw [tot, tot]
    have h1 := ih (fun o ho => hz o (by simp [ho]))
    have zo := hz o (by simp)
    have h2 : shv (shR o) x ≤ shv (shR o) ⟨up, x.k, x.a, x.r⟩ := by
      rw [shv_eq zo x]
      split
      · rename_i q
        rw [shv_eq zo, if_pos ⟨up_line h q.1, q.2⟩]
        exact Int.le_refl _
      · exact shv_nn zo _
    omega
end Le
end Go.Proofs.YtodfmnbfbndkhaaGreatDoor
end S3

section S4
namespace Go.Proofs.YtodfmnbfbndkhaaGreatDoor
open Go.RowKit Go.Sort
namespace Le
/-- One step of a script. -/
structure OpL where
  two : Bool
  k : Int
  o : Rb
  p : Rb
  sk : Int
  sa : Int
  r : ByteArray
def OpL.c (x : OpL) : List Value := [.bool x.two, .int .i64 x.k, .string x.o.1.p, .string x.o.1.n, x.o.2.1.v, .int .i64 x.o.1.pr, .int .i64 x.o.1.dl, x.o.2.2.v, .int .i64 x.o.1.ver, .string x.p.1.p, .string x.p.1.n, x.p.2.1.v, .int .i64 x.p.1.pr, .int .i64 x.p.1.dl, x.p.2.2.v, .int .i64 x.p.1.ver, .int .i64 x.sk, .int .i64 x.sa, .string x.r]
def kOpL : Kd OpL := ⟨OpL.c, 19, 51, 44, 256, ⟨false, 0, kOb.z, kOb.z, 0, 0, ⟨#[]⟩⟩⟩
theorem okOpL : kOpL.Ok := ⟨fun _ => rfl, by decide, fun x u hu => by simp only [kOpL, OpL.c, List.mem_cons, List.not_mem_nil, or_false] at hu; rcases hu with rfl | rfl | rfl | rfl | rfl | rfl | rfl | rfl | rfl | rfl | rfl | rfl | rfl | rfl | rfl | rfl | rfl | rfl | rfl <;> rfl, Tryz.underlying44, ⟨.agg (kOpL.c kOpL.z).toArray, by kernel_rfl, rfl⟩, by decide⟩
/-- Sizes that are borne. -/
structure Ozz (o : Ob) : Prop where
  z : PSz o.ps
  p : o.p.size ≤ 140737488355328
  s : OSz o
/-- The slice holds the steps. -/
structure OpsAt (w : World) (v : Value) (l : List OpL) : Prop where
  r : Row kOpL w v l
  o : ∀ x ∈ l, ObV w x.o.2.1.v x.o.2.2.v x.o.1
  p : ∀ x ∈ l, ObV w x.p.2.1.v x.p.2.2.v x.p.1
theorem OpsAt.kq {w W : World} {v : Value} {l : List OpL} (H : OpsAt w v l) (h : Kq w W) : OpsAt W v l := ⟨row_kq H.r h, fun x hx => ob_kq (H.o x hx) h, fun x hx => ob_kq (H.p x hx) h⟩
theorem OpsAt.below {w W : World} {v : Value} {l : List OpL} (H : OpsAt w v l) (h : Below w.heap.size w W) : OpsAt W v l := H.kq (Kq.of h)
/-- The sizes of a script. -/
structure OzO (l : List OpL) : Prop where
  o : ∀ x ∈ l, Ozz x.o.1
  p : ∀ x ∈ l, Ozz x.p.1
end Le
end Go.Proofs.YtodfmnbfbndkhaaGreatDoor
end S4
