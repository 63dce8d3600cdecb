/-
  Rows of bindings: appended to, written; two places turned about.
-/
import Derived.Test.YthdofbjijpghfaaGreatDoorAiC
import Derived.Laws.AppendOwnNone
import Derived.ArgAppend
namespace Go.Proofs.YthdofbjijpghfaaGreatDoor
open Go.RowKit
section
variable {α : Type} {K : Kd α}
theorem app_rows (ok : K.Ok) {ops : Array Oper} {rest : List Oper} {o : Oper} {a : Act} {Q : Exit → Act → World → Prop} (hgd : o.guard = none) (s x : Operand)
    (ho : o.op = .call { callee := .builtin .append, args := #[s, x], argTypes := #[K.s, K.s] })
    {B : Nat} {w : World} {v u : Value} {l m : List α} (hs : a.eval s = v) (hown : OwnR K B w v l) (hB : B ≤ w.heap.size) (hx : a.eval x = u) (hu : Row K w u m) (hl : (l.length + m.length) * K.b ≤ 140737488355328)
    (h : ∀ v' w', OwnR K B w' v' (l ++ m) → w.grownBy w' v.ownBlock → wpList Tryz.prog ops Q rest (a.put o.dst v') w') :
    wpList Tryz.prog ops Q (o :: rest) a w := by
  obtain ⟨zv, hinf, hzc⟩ := ok.inf
  obtain ⟨i0, hi, hz0, hz1, hz2⟩ := info_parts hinf
  have hb := ok.by0
  obtain ⟨ad, cap, rfl, hlc, hcm, hn, hc⟩ := hu
  cases ad with
  | none =>
    obtain rfl := hn rfl
    obtain rfl : m = [] := by simpa using hlc
    refine wpList_append_own_none hgd s x K.s ho B K.t i0 K.k ok.und hi v l.length (cellsR K l) hs hown hx ?_
    exact h v w (by simpa using hown) ⟨rfl, rfl, rfl, Nat.le_refl _, fun _ _ _ => rfl⟩
  | some ad =>
    refine wpList_append_own_at w hgd s x K.s ho B K.t i0 _ K.k K.b ok.und hi hz0 hz1 hz2 hzc ok.pos v l.length (cellsR K l) hs hown ad m.length cap (cellsR K m) hx (by rw [cellsR_length ok]) ?_ (cellsR_one ok m) (by have := Nat.le_mul_of_pos_right (l.length + m.length) hb.1; unfold maxLen; omega) hl hB ?_
    · intro j y hj
      have hjl : j < m.length * K.k := by
        rcases Nat.lt_or_ge j (m.length * K.k) with q | q
        · exact q
        · rw [List.getElem?_eq_none (by rw [cellsR_length ok]; exact q)] at hj; simp at hj
      have hkp := ok.pos
      have hq : j / K.k < m.length := Nat.div_lt_of_lt_mul (by rw [Nat.mul_comm]; exact hjl)
      have hr : j % K.k < K.k := Nat.mod_lt _ hkp
      have e : j = j / K.k * K.k + j % K.k := by rw [Nat.mul_comm]; exact (Nat.div_add_mod j K.k).symm
      obtain ⟨b, off, ea, hcc⟩ := hc (j / K.k) hq
      simp only [Option.some.injEq] at ea
      subst ea
      rw [add_plain]
      rw [e, cellsR_at ok m _ hq _ hr] at hj
      have := hcc _ _ hj
      rw [e, ← Nat.add_assoc]
      exact this
    · intro v' w' h1 h2 _ _
      refine h v' w' ?_ h2
      show w'.ownsRow _ _ _ _ _ _
      rw [cellsR_app, List.length_append]; exact h1
theorem frozen_row {w : World} {g : Nat} {cs : Array Value} {t : TypeId} (h : w.heap[g]? = some (.cells cs t (0, 0))) (j : Nat) : w.frozen? ⟨g, j, none⟩ = false := by
  unfold World.frozen?; rw [h]; simp
theorem OwnR.parts {B : Nat} {w : World} {g n cap : Nat} {xs : List α} (H : OwnR K B w (.slice (some ⟨g, 0, none⟩) n cap) xs) : ∃ cur : Array Value, n = xs.length ∧ B ≤ g ∧ w.heap[g]? = some (.cells cur K.t (0, 0)) ∧ n ≤ cap ∧ cap ≤ maxLen ∧ cur.size = cap * K.k ∧ cur.toList.take (n * K.k) = cellsR K xs := by
  obtain ⟨hl, ⟨hv, hn⟩ | ⟨g', cap', cur, hv, hb, hg, hn, hm, hs, ht⟩⟩ := H
  · simp at hv
  · simp only [Value.slice.injEq, Option.some.injEq, Addr.mk.injEq, and_true] at hv
    obtain ⟨rfl, rfl, rfl⟩ := hv
    exact ⟨cur, rfl, hb, hg, hn, hm, hs, ht⟩
theorem OwnR.ofParts (ok : K.Ok) {B : Nat} {w : World} {g cap : Nat} {xs : List α} {cur : Array Value} (hb : B ≤ g) (hg : w.heap[g]? = some (.cells cur K.t (0, 0))) (hn : xs.length ≤ cap) (hm : cap ≤ maxLen) (hs : cur.size = cap * K.k) (ht : cur.toList.take (xs.length * K.k) = cellsR K xs) : OwnR K B w (.slice (some ⟨g, 0, none⟩) xs.length cap) xs :=
  ⟨cellsR_length ok xs, .inr ⟨g, cap, cur, rfl, hb, hg, hn, hm, hs, ht⟩⟩
theorem cellsR_set (ok : K.Ok) (xs : List α) (i j : Nat) (hi : i < xs.length) (hj : j < K.k) (y : α) (v : Value) (hy : K.c y = (K.c (xs.getD i K.z)).set j v) : (cellsR K xs).set (i * K.k + j) v = cellsR K (xs.set i y) := by
  induction xs generalizing i with
  | nil => simp at hi
  | cons x r ih =>
    cases i with
    | zero =>
      rw [List.getD_cons_zero] at hy
      rw [List.set_cons_zero, cellsR, cellsR, List.flatMap_cons, List.flatMap_cons, Nat.zero_mul, Nat.zero_add, List.set_append_left _ _ (by rw [ok.len]; exact hj), hy]
    | succ i =>
      rw [List.getD_cons_succ] at hy
      have := ih i (by simpa using hi) hy
      rw [List.set_cons_succ, cellsR, cellsR, List.flatMap_cons, List.flatMap_cons, List.set_append_right _ _ (by rw [ok.len, Nat.succ_mul]; omega), ok.len, show (i + 1) * K.k + j - K.k = i * K.k + j by rw [Nat.succ_mul]; omega]
      rw [cellsR, cellsR] at this
      rw [this]
/-- One element turned, cell by cell. -/
theorem OwnR.set (ok : K.Ok) {B : Nat} {w : World} {g n cap : Nat} {xs : List α} (H : OwnR K B w (.slice (some ⟨g, 0, none⟩) n cap) xs) (i j : Nat) (hi : i < xs.length) (hj : j < K.k) (y : α) (v : Value) (hy : K.c y = (K.c (xs.getD i K.z)).set j v) : OwnR K B (w.setCell ⟨g, i * K.k + j, none⟩ v) (.slice (some ⟨g, 0, none⟩) n cap) (xs.set i y) := by
  obtain ⟨cur, rfl, hbg, hg, hnc, hcm, hsz, ht⟩ := H.parts
  have hg2 : (w.setCell ⟨g, i * K.k + j, none⟩ v).heap[g]? = some (.cells (cur.setIfInBounds (i * K.k + j) v) K.t (0, 0)) := heap_setCell_same _ _ _ _ _ _ hg
  have e : (xs.set i y).length = xs.length := by simp
  rw [← e]
  refine OwnR.ofParts ok hbg hg2 (by rw [e]; exact hnc) hcm (by simpa using hsz) ?_
  rw [e, Array.toList_setIfInBounds, List.take_set, ht]
  exact cellsR_set ok xs i j hi hj y v hy

end
namespace Ac
def mk (n : Int) (k : Nat) : Nat := (n % 18446744073709551616).toNat % 2 ^ k
theorem mk_lt (n : Int) (k : Nat) : mk n k < 2 ^ k := Nat.mod_lt _ (Nat.two_pow_pos k)
theorem and_mk (n : Int) (k : Nat) (hk : k ≤ 62) : bits .and .i64 n (((2 ^ k - 1 : Nat)) : Int) = (mk n k : Int) := by
  have hp : 2 ^ k ≤ 4611686018427387904 := Nat.le_trans (Nat.pow_le_pow_right (by decide) hk) (by decide)
  have hp0 : 0 < 2 ^ k := Nat.two_pow_pos k
  have h1 : (BitVec.ofInt 64 n).toNat = (n % 18446744073709551616).toNat := by rw [BitVec.toNat_ofInt]; rfl
  have h2 : (BitVec.ofInt 64 (((2 ^ k - 1 : Nat)) : Int)).toNat = 2 ^ k - 1 := by
    rw [BitVec.ofInt_natCast, BitVec.toNat_ofNat]; exact Nat.mod_eq_of_lt (by omega)
  show IntKind.i64.wrap ((BitVec.ofInt 64 n &&& BitVec.ofInt 64 (((2 ^ k - 1 : Nat)) : Int)).toNat : Int) = _
  rw [BitVec.toNat_and, h1, h2, Nat.and_two_pow_sub_one_eq_mod, IntKind.wrap_i64]
  unfold mk
  have := Nat.mod_lt (n % 18446744073709551616).toNat hp0
  omega
theorem and_1023 (n : Int) : bits .and .i64 n 1023 = (mk n 10 : Int) := and_mk n 10 (by decide)
theorem own_setB {B : Nat} {w : World} {g n cap : Nat} {xs : List Bv} (H : OwnR kBv B w (.slice (some ⟨g, 0, none⟩) n cap) xs) (i : Nat) (hi : i < xs.length) (y : Bv) :
    OwnR kBv B ((((w.setCell ⟨g, i * 4, none⟩ (.string y.1.p)).setCell ⟨g, i * 4 + 1, none⟩ (.string y.1.n)).setCell ⟨g, i * 4 + 2, none⟩ (.string y.1.s)).setCell ⟨g, i * 4 + 3, none⟩ (.int .i64 y.1.v)) (.slice (some ⟨g, 0, none⟩) n cap) (xs.set i y) := by
  obtain ⟨z, hz⟩ : ∃ z, z = xs.getD i Bv.z := ⟨_, rfl⟩
  have gs : ∀ a : Bv, (xs.set i a).getD i Bv.z = a := fun a => by rw [List.getD_eq_getElem?_getD, List.getElem?_set_self hi]; rfl
  have ln : ∀ a : Bv, i < (xs.set i a).length := fun a => by rw [List.length_set]; exact hi
  have h0 := H.set okBv i 0 hi (by decide) (Bv.mk ⟨y.1.p, z.1.n, z.1.s, z.1.v⟩ y.2) (.string y.1.p) (by show _ = (kBv.c (xs.getD i Bv.z)).set 0 _; rw [← hz]; rfl)
  have h1 := h0.set okBv i 1 (ln _) (by decide) (Bv.mk ⟨y.1.p, y.1.n, z.1.s, z.1.v⟩ y.2) (.string y.1.n) (by show _ = (kBv.c ((xs.set i _).getD i Bv.z)).set 1 _; rw [gs]; rfl)
  rw [List.set_set] at h1
  have h2 := h1.set okBv i 2 (ln _) (by decide) (Bv.mk ⟨y.1.p, y.1.n, y.1.s, z.1.v⟩ y.2) (.string y.1.s) (by show _ = (kBv.c ((xs.set i _).getD i Bv.z)).set 2 _; rw [gs]; rfl)
  rw [List.set_set] at h2
  have h3 := h2.set okBv i 3 (ln _) (by decide) y (.int .i64 y.1.v) (by show _ = (kBv.c ((xs.set i _).getD i Bv.z)).set 3 _; rw [gs]; rfl)
  rw [List.set_set] at h3
  exact h3
def swl (l : List Bv) (x y : Nat) : List Bv := (l.set x (l.getD y Bv.z)).set y (l.getD x Bv.z)
theorem swl_perm (l : List Bv) (x y : Nat) (hx : x < l.length) (hy : y < l.length) : (swl l x y).Perm l := by
  unfold swl
  rw [List.getD_eq_getElem?_getD, List.getD_eq_getElem?_getD, List.getElem?_eq_getElem hx, List.getElem?_eq_getElem hy]
  exact List.set_set_perm hx hy
/-- What List tells can be laid again, in any order. -/
theorem cnt_cn {D : DataW Unit} {S : List Bv} (h : Li D S) (p : ByteArray) : Cn D p (cntP p S) := by
  refine ⟨(S.filter (fun y => decide (y.1.p = p))).map (·.1), ?_, fun x => ?_, ?_⟩
  · rw [List.pairwise_map]; exact h.d.filter _
  · rw [List.mem_map]
    constructor
    · rintro ⟨y, hy, rfl⟩
      obtain ⟨a, b⟩ := List.mem_filter.1 hy
      exact ⟨(h.m y.1).1 ⟨y, a, rfl⟩, of_decide_eq_true b⟩
    · rintro ⟨a, b⟩
      obtain ⟨y, hy, rfl⟩ := (h.m x).2 a
      exact ⟨y, List.mem_filter.2 ⟨hy, decide_eq_true b⟩, rfl⟩
  · unfold cntP; rw [List.length_map]
theorem cnt_perm {M S : List Bv} (h : M.Perm S) (p : ByteArray) : cntP p M = cntP p S := (h.filter _).length_eq
theorem kl_symm : ∀ {x y : Bv}, kl x.1.p x.1.n ≠ kl y.1.p y.1.n → kl y.1.p y.1.n ≠ kl x.1.p x.1.n := fun h e => h e.symm
theorem og_perm {D : DataW Unit} {S M : List Bv} (h : Li D S) (hi : Iv D) (hp : M.Perm S) : Og M M.length := by
  refine ⟨fun y hy => hi.v y.1 ((h.m y.1).1 ⟨y, hp.mem_iff.1 hy, rfl⟩), ?_, fun p => ?_, fun q => absurd q (Nat.lt_irrefl _)⟩
  · rw [List.take_length]
    exact hp.symm.pairwise h.d kl_symm
  · rw [List.take_length, cnt_perm hp]
    exact hi.c p _ (cnt_cn h p)
theorem og_more {D : DataW Unit} {S M : List Bv} (h : Li D S) (hi : Iv D) (hp : M.Perm S) (h0 : 0 < S.length) : Og (M ++ [S.getD 0 Bv.z]) M.length := by
  have o := og_perm h hi hp
  have hm : S.getD 0 Bv.z ∈ S := getD_inB h0
  refine ⟨fun y hy => ?_, ?_, fun p => ?_, fun _ => ?_⟩
  · rcases List.mem_append.1 hy with q | q
    · exact o.v y q
    · rw [List.mem_singleton] at q
      rw [q]
      exact hi.v _ ((h.m _).1 ⟨_, hm, rfl⟩)
  · rw [List.take_left]; have := o.d; rw [List.take_length] at this; exact this
  · rw [List.take_left]; have := o.c p; rw [List.take_length] at this; exact this
  · rw [List.take_left]
    refine ⟨_, hp.mem_iff.2 hm, ?_⟩
    have e : (M ++ [S.getD 0 Bv.z]).getD M.length Bv.z = S.getD 0 Bv.z := by rw [List.getD_eq_getElem?_getD, List.getElem?_append_right (Nat.le_refl _), Nat.sub_self]; rfl
    rw [e]
    exact ⟨rfl, rfl⟩
/-- How many stand in a row at one path. -/
theorem run_step {S : List Bv} {i at0 : Nat} (hi : i < S.length) (h : at0 ≤ if i = 0 then 0 else cntP (S.getD (i - 1) Bv.z).1.p (S.take i)) :
    (if 0 < i ∧ ¬ (S.getD i Bv.z).1.p = (S.getD (i - 1) Bv.z).1.p then 1 else at0 + 1) ≤ cntP (S.getD i Bv.z).1.p (S.take (i + 1)) := by
  rw [take_oneB S i Bv.z hi, cntP_snoc, if_pos rfl]
  split
  · omega
  · rename_i c
    by_cases q : i = 0
    · rw [if_pos q] at h; omega
    · rw [if_neg q] at h
      have e : (S.getD i Bv.z).1.p = (S.getD (i - 1) Bv.z).1.p := Classical.byContradiction fun n => c ⟨by omega, n⟩
      rw [e]; omega
theorem cnt_take (S : List Bv) (p : ByteArray) (k : Nat) : cntP p (S.take k) ≤ cntP p S := by
  unfold cntP
  exact List.Sublist.length_le (List.Sublist.filter _ (List.take_sublist _ _))
end Ac
end Go.Proofs.YthdofbjijpghfaaGreatDoor
