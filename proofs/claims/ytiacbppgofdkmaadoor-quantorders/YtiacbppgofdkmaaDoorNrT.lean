/-
  The law's turned.
-/
import Derived.Test.YtiacbppgofdkmaaDoorNrB
import Derived.Laws.AppendOwnNone
namespace Go.Proofs.YtiacbppgofdkmaaDoor
open Go.RowKit Go.Lib
open Go.Sort (grow)
section
variable {α : Type} {K : Kd α}
theorem app_rows (ok : K.Ok) {ops : Array Oper} {rest : List Oper} {o : Oper} {a : Act} {Q : Exit → Act → World → Prop} (hgd : o.guard = none) (s x : Operand)
    (ho : o.op = .call { callee := .builtin .append, args := #[s, x], argTypes := #[K.s, K.s] })
    {B : Nat} {w : World} {v u : Value} {l m : List α} (hs : a.eval s = v) (hown : OwnR K B w v l) (hB : B ≤ w.heap.size) (hx : a.eval x = u) (hu : Row K w u m) (hl : (l.length + m.length) * K.b ≤ 140737488355328)
    (h : ∀ v' w', OwnR K B w' v' (l ++ m) → w.grownBy w' v.ownBlock → wpList Tryd.prog ops Q rest (a.put o.dst v') w') :
    wpList Tryd.prog ops Q (o :: rest) a w := by
  obtain ⟨zv, hinf, hzc⟩ := ok.inf
  obtain ⟨i0, hi, hz0, hz1, hz2⟩ := info_parts hinf
  have hb := ok.by0
  obtain ⟨ad, cap, rfl, hlc, hcm, hn, hc⟩ := hu
  cases ad with
  | none =>
    obtain rfl := hn rfl
    obtain rfl : m = [] := by simpa using hlc
    refine wpList_append_own_none hgd s x K.s ho B K.t i0 K.k ok.und hi v l.length (cellsR K l) hs hown hx ?_
    exact h v w (by simpa using hown) ⟨rfl, rfl, rfl, Nat.le_refl _, fun _ _ _ => rfl⟩
  | some ad =>
    refine wpList_append_own_at w hgd s x K.s ho B K.t i0 _ K.k K.b ok.und hi hz0 hz1 hz2 hzc ok.pos v l.length (cellsR K l) hs hown ad m.length cap (cellsR K m) hx (by rw [cellsR_length ok]) ?_ (cellsR_one ok m) (by have := Nat.le_mul_of_pos_right (l.length + m.length) hb.1; unfold maxLen; omega) hl hB ?_
    · intro j y hj
      have hjl : j < m.length * K.k := by
        rcases Nat.lt_or_ge j (m.length * K.k) with q | q
        · exact q
        · rw [List.getElem?_eq_none (by rw [cellsR_length ok]; exact q)] at hj; simp at hj
      have hkp := ok.pos
      have hq : j / K.k < m.length := Nat.div_lt_of_lt_mul (by rw [Nat.mul_comm]; exact hjl)
      have hr : j % K.k < K.k := Nat.mod_lt _ hkp
      have e : j = j / K.k * K.k + j % K.k := by rw [Nat.mul_comm]; exact (Nat.div_add_mod j K.k).symm
      obtain ⟨b, off, ea, hcc⟩ := hc (j / K.k) hq
      simp only [Option.some.injEq] at ea
      subst ea
      rw [add_plain]
      rw [e, cellsR_at ok m _ hq _ hr] at hj
      have := hcc _ _ hj
      rw [e, ← Nat.add_assoc]
      exact this
    · intro v' w' h1 h2 _ _
      refine h v' w' ?_ h2
      show w'.ownsRow _ _ _ _ _ _
      rw [cellsR_app, List.length_append]; exact h1
end
theorem wrap64_in {x : Int} (h : 0 ≤ x) (h2 : x < 4611686018427387904) : wrap64 x = x := by
  unfold wrap64
  omega
theorem u64_remT (x : Int) (m : Nat) (hm : 0 < m) : ∃ i : Nat, i < m ∧ (IntKind.u64.wrap x).tmod m = i := by
  have h0 : 0 ≤ IntKind.u64.wrap x := by
    unfold IntKind.wrap
    simp [IntKind.bits, IntKind.signed]
    omega
  refine ⟨((IntKind.u64.wrap x) % m).toNat, ?_, ?_⟩
  · have := Int.emod_lt_of_pos (IntKind.u64.wrap x) (b := (m : Int)) (by omega)
    have := Int.emod_nonneg (IntKind.u64.wrap x) (b := (m : Int)) (by omega)
    omega
  · rw [Int.tmod_eq_emod_of_nonneg h0]
    have := Int.emod_nonneg (IntKind.u64.wrap x) (b := (m : Int)) (by omega)
    omega
theorem row_take {w : World} {b off n cap : Nat} {l : List Am} (H : Row kAm w (.slice (some ⟨b, off, none⟩) n cap) l) (k : Nat) (hk : k ≤ l.length) : Row kAm w (.slice (some ⟨b, off, none⟩) k cap) (l.take k) := by
  obtain ⟨a', cap', e', h1, h2, h0, hc⟩ := H
  simp only [Value.slice.injEq] at e'
  obtain ⟨rfl, rfl, rfl⟩ := e'
  have e : (l.take k).length = k := by rw [List.length_take]; omega
  refine ⟨some ⟨b, off, none⟩, cap, by rw [e], by rw [e]; omega, h2, h0, fun j hj => ?_⟩
  rw [e] at hj
  obtain ⟨b', off', ea, hcc⟩ := hc j (by omega)
  refine ⟨b', off', ea, fun i y hy => hcc i y ?_⟩
  have e2 : (l.take k).getD j kAm.z = l.getD j kAm.z := by rw [List.getD_eq_getElem?_getD, List.getElem?_take_of_lt hj, List.getD_eq_getElem?_getD]
  rw [e2] at hy; exact hy
theorem row_drop {w : World} {b off n cap : Nat} {l : List Am} (H : Row kAm w (.slice (some ⟨b, off, none⟩) n cap) l) (k : Nat) (hk : k ≤ l.length) : Row kAm w (.slice (some ⟨b, off + k * 2, none⟩) (n - k) (cap - k)) (l.drop k) := by
  obtain ⟨a', cap', e', h1, h2, h0, hc⟩ := H
  simp only [Value.slice.injEq] at e'
  obtain ⟨rfl, rfl, rfl⟩ := e'
  have e : (l.drop k).length = l.length - k := List.length_drop
  refine ⟨some ⟨b, off + k * 2, none⟩, cap - k, by rw [e], by rw [e]; omega, by omega, (fun h => by cases h), fun j hj => ?_⟩
  rw [e] at hj
  obtain ⟨b', off', ea, hcc⟩ := hc (k + j) (by omega)
  simp only [Option.some.injEq, Addr.mk.injEq, and_true] at ea
  obtain ⟨rfl, rfl⟩ := ea
  refine ⟨b, off + k * 2, rfl, fun i y hy => ?_⟩
  have e2 : (l.drop k).getD j kAm.z = l.getD (k + j) kAm.z := by rw [List.getD_eq_getElem?_getD, List.getElem?_drop, List.getD_eq_getElem?_getD]
  rw [e2] at hy
  have q := hcc i y hy
  have e3 : off + (k + j) * kAm.k + i = off + k * 2 + j * kAm.k + i := by show off + (k + j) * 2 + i = off + k * 2 + j * 2 + i; omega
  rw [e3] at q; exact q
set_option maxHeartbeats 4000000 in
set_option maxRecDepth 100000 in
theorem turned_any (v : Value) (l : List Am) (x : Int) (w : World) (hv : Row kAm w v l) (hz : (l.length + 1) * 24 ≤ 140737488355328) :
    Calls Tryd.prog 21 #[v, .int .i64 x] w fun e w' => ∃ (t : List Am) (a : Option Addr) (n c : Nat), e = .returned (.slice a n c) ∧ t.Perm l ∧ OwnR kAm w.heap.size w' (.slice a n c) t ∧ Below w.heap.size w w' := by
  have V := Lib.hid hv
  obtain ⟨va, vc, rfl, hlc, hcm⟩ := hv.len
  unfold maxLen at hcm
  obtain ⟨n, hn⟩ : ∃ n, n = l.length := ⟨_, rfl⟩
  rw [← hn] at hlc hz V ⊢
  have HN := Lib.hid hn
  have NZ := Lib.hid hz
  clear hv hn
  go_enter Tryd.func21, Tryd.ntmps21
  rcases Nat.eq_zero_or_pos n with h0 | h0
  · subst h0
    go_wp2_with fail
    go_ret
    refine ⟨[], none, 0, 0, rfl, ?_, OwnR.nil _ _ _, Below.refl _ _⟩
    rw [List.length_eq_zero_iff.1 HN.out.symm]
  · obtain ⟨b, off, ea, -⟩ := V.out.at 0 (by rw [← HN.out]; exact h0)
    subst ea
    obtain ⟨i, hi, ei⟩ := u64_remT x n h0
    have ei2 : wrap64 ((IntKind.u64.wrap x).tmod (n : Int)) = (i : Int) := by rw [ei]; exact wrap64_in (by omega) (by omega)
    have n0 : ((n : Int) == 0) = false := by rw [beq_eq_false_iff_ne]; omega
    have n1 : (n : Int) ≤ 5864062014806 := by omega
    have i1 : (i : Int) ≤ (n : Int) := by omega
    have RD : Hid (Row kAm w (.slice (some ⟨b, off + i * 2, none⟩) (n - i) (vc - i)) (l.drop i)) := Lib.hid (row_drop V.out i (by rw [← HN.out]; omega))
    have RT : Hid (∀ W, Below w.heap.size w W → Row kAm W (.slice (some ⟨b, off, none⟩) i vc) (l.take i)) := Lib.hid fun W hb => (row_take V.out i (by rw [← HN.out]; omega)).below hb
    have L1 : Hid ((([] : List Am).length + (l.drop i).length) * kAm.b ≤ 140737488355328) := Lib.hid (by rw [List.length_drop, ← HN.out]; show (0 + (n - i)) * 24 ≤ _; omega)
    have L2 : Hid (((l.drop i).length + (l.take i).length) * kAm.b ≤ 140737488355328) := Lib.hid (by rw [List.length_drop, List.length_take, ← HN.out]; show (n - i + min i n) * 24 ≤ _; omega)
    clear ei hz
    have LD : Hid ((l.drop i).length = n - i) := Lib.hid (by rw [List.length_drop, ← HN.out])
    have M1 : True := trivial
    go_wp2_with (first | (at_builtin; clear M1; (refine app_rows okAm (B := w.heap.size) (w := w) (v := .slice none 0 0) (u := .slice (some ⟨b, off + i * 2, none⟩) (n - i) (vc - i)) (l := []) (m := l.drop i) rfl _ _ rfl rfl (OwnR.nil _ _ _) (Nat.le_refl _) rfl RD.out L1.out ?_; intro v1 w1 h1 k1; rw [List.nil_append] at h1; obtain ⟨a1, c1, ee⟩ := h1.slice; rw [LD.out] at ee; subst ee; have O1 : Hid (OwnR kAm w.heap.size w1 (.slice a1 (n - i) c1) (l.drop i) ∧ Below w.heap.size w w1) := Lib.hid ⟨h1, (Below.refl _ w).grown k1 (Nat.le_refl _) (fun j hj => by cases hj)⟩; clear h1 k1)) | (at_builtin; (refine app_rows okAm (B := w.heap.size) (w := w1) (v := .slice a1 (n - i) c1) (u := .slice (some ⟨b, off, none⟩) i vc) (l := l.drop i) (m := l.take i) rfl _ _ rfl rfl O1.out.1 O1.out.2.size rfl (RT.out _ O1.out.2) L2.out ?_; intro v2 w2 h2 k2; obtain ⟨a2, c2, ee⟩ := h2.slice; subst ee; have O2 : Hid (OwnR kAm w.heap.size w2 (.slice a2 (l.drop i ++ l.take i).length c2) (l.drop i ++ l.take i) ∧ Below w.heap.size w w2) := Lib.hid ⟨h2, O1.out.2.trans (grown_belowR k2 O1.out.1 O1.out.2.size)⟩; clear h2 k2)))
    go_ret
    refine ⟨l.drop i ++ l.take i, a2, _, c2, rfl, ?_, by have q := O2.out.1; rw [List.length_append, List.length_drop, List.length_take] at q; exact q, O2.out.2⟩
    have q : (l.take i ++ l.drop i) = l := List.take_append_drop i l
    exact List.perm_append_comm.trans (by rw [q])
end Go.Proofs.YtiacbppgofdkmaaDoor
