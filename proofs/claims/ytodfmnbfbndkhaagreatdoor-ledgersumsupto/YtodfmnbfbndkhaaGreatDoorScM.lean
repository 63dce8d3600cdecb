/-
  What an object uses, as data: sums over lists of names and amounts.
-/
import Derived.Test.YtodfmnbfbndkhaaGreatDoorScB
import Derived.Sort.KeysCollected
import Derived.Maps.OwnSet
import Derived.Maps.OwnOps
import Derived.Maps.Own
import Derived.Maps.Views
namespace Go.Proofs.YtodfmnbfbndkhaaGreatDoor
open Go.RowKit Go.Maps
abbrev En := List UInt8 × Int
/-- The sum of what stands under a name. -/
def Tot : List En → List UInt8 → Int
  | [], _ => 0
  | e :: r, n => (if e.1 = n then e.2 else 0) + Tot r n
theorem Tot_app (es fs : List En) (n : List UInt8) : Tot (es ++ fs) n = Tot es n + Tot fs n := by
  induction es with
  | nil => simp [Tot]
  | cons e r ih => rw [List.cons_append, Tot, Tot, ih]; omega
theorem Tot_one (e : En) (n : List UInt8) : Tot [e] n = if e.1 = n then e.2 else 0 := by simp [Tot]
theorem Tot_pos {es : List En} (h : ∀ e ∈ es, 0 ≤ e.2) (n : List UInt8) : 0 ≤ Tot es n := by
  induction es with
  | nil => simp [Tot]
  | cons e r ih =>
    rw [Tot]
    have h1 := h e (by simp)
    have h2 := ih (fun x hx => h x (by simp [hx]))
    split <;> omega
theorem Tot_none {es : List En} {n : List UInt8} (h : n ∉ es.map Prod.fst) : Tot es n = 0 := by
  induction es with
  | nil => simp [Tot]
  | cons e r ih =>
    simp only [List.map_cons, List.mem_cons, not_or] at h
    rw [Tot, if_neg (fun q => h.1 q.symm), ih h.2]; rfl
theorem Tot_perm {es fs : List En} (h : es.Perm fs) (n : List UInt8) : Tot es n = Tot fs n := by
  induction h with
  | nil => rfl
  | cons x _ ih => rw [Tot, Tot, ih]
  | swap x y l => simp only [Tot]; omega
  | trans _ _ a b => rw [a, b]
def ded : List (List UInt8) → List (List UInt8)
  | [] => []
  | x :: r => if x ∈ ded r then ded r else x :: ded r
theorem mem_ded (l : List (List UInt8)) : ∀ x : List UInt8, x ∈ ded l ↔ x ∈ l := by
  induction l with
  | nil => intro x; simp [ded]
  | cons y r ih =>
    intro x
    rw [ded, List.mem_cons]
    split
    · rename_i h
      rw [ih x]
      exact ⟨Or.inr, fun q => q.elim (fun e => by rw [e]; exact (ih y).1 h) id⟩
    · rw [List.mem_cons, ih x]
theorem ded_nodup (l : List (List UInt8)) : (ded l).Nodup := by
  induction l with
  | nil => simp [ded]
  | cons y r ih =>
    rw [ded]
    split
    · exact ih
    · rename_i h; exact List.nodup_cons.2 ⟨h, ih⟩
/-- The names, rising, none twice. -/
def nmsOf (es : List En) : List (List UInt8) := (ded (es.map Prod.fst)).mergeSort fun x y => decide (x ≤ y)
theorem nms_of_perm {es : List En} {ss : List (List UInt8)} (hd : ss.Nodup) (hm : ∀ n, n ∈ ss ↔ n ∈ es.map Prod.fst) : ss.mergeSort (fun x y => decide (x ≤ y)) = nmsOf es :=
  mergeSort_of_perm ((List.perm_ext_iff_of_nodup hd (ded_nodup _)).2 fun x => by rw [hm, mem_ded])
theorem mem_nms (es : List En) (n : List UInt8) : n ∈ nmsOf es ↔ n ∈ es.map Prod.fst := by
  unfold nmsOf; rw [(List.mergeSort_perm _ _).mem_iff, mem_ded]
theorem nms_nodup (es : List En) : (nmsOf es).Nodup := (List.mergeSort_perm _ _).nodup_iff.2 (ded_nodup _)
theorem nms_rise (es : List En) : (nmsOf es).Pairwise (fun x y => x < y) := by
  have tr : ∀ a b c : List UInt8, leB a b = true → leB b c = true → leB a c = true := fun a b c h1 h2 => by simp only [leB, decide_eq_true_eq] at *; exact List.le_trans h1 h2
  have tq : ∀ a b : List UInt8, (leB a b || leB b a) = true := fun a b => by simp only [leB, Bool.or_eq_true, decide_eq_true_eq]; exact List.le_total a b
  have h := List.pairwise_mergeSort tr tq (ded (es.map Prod.fst))
  have hn : (nmsOf es).Pairwise (· ≠ ·) := nms_nodup es
  refine (h.and hn).imp ?_
  rintro a b ⟨h1, h2⟩
  simp only [leB, decide_eq_true_eq] at h1
  exact Classical.byContradiction fun q => h2 (List.le_antisymm h1 (List.not_lt.1 q))
/-- The list that is told. -/
def outL (es : List En) : List Am := (nmsOf es).map fun n => ⟨⟨n.toArray⟩, Tot es n⟩
theorem outL_perm {es fs : List En} (h : es.Perm fs) : outL es = outL fs := by
  have e1 : nmsOf es = nmsOf fs := nms_of_perm (ded_nodup _) (fun n => by rw [mem_ded]; exact (h.map Prod.fst).mem_iff)
  unfold outL
  rw [e1]
  exact List.map_congr_left fun n _ => by rw [Tot_perm h n]
def maxA : Int := 9223372036854775807
def Ov (es : List En) : Prop := ∃ n, maxA < Tot es n
theorem Ov_app {es fs : List En} (h : Ov es) (hp : ∀ e ∈ fs, 0 ≤ e.2) : Ov (es ++ fs) := by
  obtain ⟨n, hn⟩ := h
  exact ⟨n, by rw [Tot_app]; have := Tot_pos hp n; omega⟩
def tCount : ByteArray := ⟨#[99, 111, 117, 110, 116]⟩
def tReq : ByteArray := ⟨#[114, 101, 113, 117, 101, 115, 116, 115, 46]⟩
def tLim : ByteArray := ⟨#[108, 105, 109, 105, 116, 115, 46]⟩
/-- The amounts of a list, under names with this head. -/
def pre (h : ByteArray) (l : List Am) : List En := l.map fun x => (h.data.toList ++ x.n.data.toList, x.v)
def ptEs (p : Pt) : List En := pre tReq p.r ++ pre tLim p.l
def obEs (ps : List Pt) : List En := (tCount.data.toList, 1000) :: ps.flatMap ptEs
/-- The map that holds the sums. -/
def Sm (D : DataW Unit) (es : List En) : Prop := IsMap D ∧ (∀ n : List UInt8, Maps.has D (.string n) = decide (n ∈ es.map Prod.fst)) ∧ ∀ n : List UInt8, D.atKey (.string n) (.lit (.int .i64 0)) = .lit (.int .i64 (Tot es n))
theorem isKeyS (l : List UInt8) : WideAt.IsKeyLit (.string l) := by trivial
theorem Sm.none : Sm (.map []) [] := ⟨⟨[], rfl⟩, fun n => by simp [Maps.has_eq], fun n => rfl⟩
theorem Sm.put {D : DataW Unit} {es : List En} (h : Sm D es) (m : List UInt8) (v : Int) : Sm (D.put (.string m) (.lit (.int .i64 (Tot es m + v)))) (es ++ [(m, v)]) := by
  obtain ⟨h1, h2, h3⟩ := h
  refine ⟨h1.put _ _, fun n => ?_, fun n => ?_⟩
  · by_cases e : n = m
    · subst e
      rw [has_put_same h1 (isKeyS _)]
      simp
    · rw [has_put_other (fun q => e (by injection q)), h2]
      simp [e]
  · by_cases e : n = m
    · subst e
      rw [atKey_put_same h1 (isKeyS _), Tot_app, Tot_one, if_pos rfl]
    · rw [atKey_put_other (fun q => e (by injection q)), h3, Tot_app, Tot_one, if_neg (fun q => e q.symm), Int.add_zero]
theorem law : Keyed Tryz.prog 9 := string_keyed Tryz.underlying9
theorem zeroE (w : World) : (zeroValue 2).run Tryz.prog w = .ok (.int .i64 0) w := by go_simp
theorem make_map (w : World) : (Instr.makeMap 93 none).run Tryz.prog w = .ok (.map (some w.heap.size)) (w.alloc (.map #[] 0)) := by
  first | rfl | simp [Instr.makeMap, run_underlying Tryz.underlying93, Result.andThen]
/-- An entry laid into a map that is being made. -/
theorem wpList_insert_own {H : Type} {P : Program} (w : World) {ops : Array Oper} {rest : List Oper} {o : Oper} {a : Act} {Q : Exit → Act → World → Prop}
    (hg : o.guard = none) (m x v : Operand) (t : TypeId) (hop : o.op = Op.insert t m x v)
    (k e : TypeId) (K : Keyed P k) (ht : P.underlying t = some (.map k e)) (R : Value → Option (DataW H × List MemPlace)) (b n : Nat) (D : DataW H)
    (hm : a.eval m = .map (some b)) (hown : w.ownsMap P k R b n D) (hn : n < maxLen) (key val : Value) (kl : Lit) (hx : a.eval x = key) (hv : a.eval v = val) (hkey : keyOf P k key = some kl)
    (d : DataW H) (ps : List MemPlace) (hval : R val = some (d, ps))
    (hK : ∀ w', w'.ownsMap P k R b (n + 1) (D.put kl d) → w.grownBy w' (some b) → wpList P ops Q rest (a.put o.dst undef) w') :
    wpList P ops Q (o :: rest) a w := by
  refine wpList_plain hg fun K' hK' => ?_
  obtain ⟨w', hrun, r1, r2⟩ := hown.update K ht hn hkey hval
  unfold Oper.wp
  simp [execOp, hop, hm, hx, hv, hrun, Result.andThen]
  exact hK' _ _ (hK w' r1 r2)
/-- How many keys. -/
theorem owns_size {P : Program} {k : TypeId} {R : Value → Option (DataW Unit × List MemPlace)} {w : World} {b n : Nat} {D : DataW Unit} (h : w.ownsMap P k R b n D) : Maps.size D ≤ n := by
  obtain ⟨es, clock, _, _, hs, rfl⟩ := h
  show ((es.toList.map _).foldr DataW.insert []).length ≤ n
  rw [length_sorted]
  simpa using hs
end Go.Proofs.YtodfmnbfbndkhaaGreatDoor
