/-
  What the law's loops leave.
-/
import Derived.Test.YtjlpcklcnabldaaDoorKaB
import Derived.Laws.AppendOwnNone
namespace Go.Proofs.YtjlpcklcnabldaaDoor
open Go.RowKit
section
variable {α : Type} {K : Kd α}
theorem app_rowsK (ok : K.Ok) {ops : Array Oper} {rest : List Oper} {o : Oper} {a : Act} {Q : Exit → Act → World → Prop} (hgd : o.guard = none) (s x : Operand)
    (ho : o.op = .call { callee := .builtin .append, args := #[s, x], argTypes := #[K.s, K.s] })
    {B : Nat} {w : World} {v u : Value} {l m : List α} (hs : a.eval s = v) (hown : OwnR K B w v l) (hB : B ≤ w.heap.size) (hx : a.eval x = u) (hu : Row K w u m) (hl : (l.length + m.length) * K.b ≤ 140737488355328)
    (h : ∀ v' w', OwnR K B w' v' (l ++ m) → w.grownBy w' v.ownBlock → wpList Tryd.prog ops Q rest (a.put o.dst v') w') :
    wpList Tryd.prog ops Q (o :: rest) a w := by
  obtain ⟨zv, hinf, hzc⟩ := ok.inf
  obtain ⟨i0, hi, hz0, hz1, hz2⟩ := info_parts hinf
  have hb := ok.by0
  obtain ⟨ad, cap, rfl, hlc, hcm, hn, hc⟩ := hu
  cases ad with
  | none =>
    obtain rfl := hn rfl
    obtain rfl : m = [] := by simpa using hlc
    refine wpList_append_own_none hgd s x K.s ho B K.t i0 K.k ok.und hi v l.length (cellsR K l) hs hown hx ?_
    exact h v w (by simpa using hown) ⟨rfl, rfl, rfl, Nat.le_refl _, fun _ _ _ => rfl⟩
  | some ad =>
    refine wpList_append_own_at w hgd s x K.s ho B K.t i0 _ K.k K.b ok.und hi hz0 hz1 hz2 hzc ok.pos v l.length (cellsR K l) hs hown ad m.length cap (cellsR K m) hx (by rw [cellsR_length ok]) ?_ (cellsR_one ok m) (by have := Nat.le_mul_of_pos_right (l.length + m.length) hb.1; unfold maxLen; omega) hl hB ?_
    · intro j y hj
      have hjl : j < m.length * K.k := by
        rcases Nat.lt_or_ge j (m.length * K.k) with q | q
        · exact q
        · rw [List.getElem?_eq_none (by rw [cellsR_length ok]; exact q)] at hj; simp at hj
      have hkp := ok.pos
      have hq : j / K.k < m.length := Nat.div_lt_of_lt_mul (by rw [Nat.mul_comm]; exact hjl)
      have hr : j % K.k < K.k := Nat.mod_lt _ hkp
      have e : j = j / K.k * K.k + j % K.k := by rw [Nat.mul_comm]; exact (Nat.div_add_mod j K.k).symm
      obtain ⟨b, off, ea, hcc⟩ := hc (j / K.k) hq
      simp only [Option.some.injEq] at ea
      subst ea
      rw [add_plain]
      rw [e, cellsR_at ok m _ hq _ hr] at hj
      have := hcc _ _ hj
      rw [e, ← Nat.add_assoc]
      exact this
    · intro v' w' h1 h2 _ _
      refine h v' w' ?_ h2
      show w'.ownsRow _ _ _ _ _ _
      rw [cellsR_app, List.length_append]; exact h1
end
theorem row_strs {w : World} {v : Value} {ts : List ByteArray} (h : L.Strs w v ts) : Row kT w v ts := by
  obtain ⟨a, cap, e, h1, h2, h0, hc⟩ := h
  refine ⟨a, cap, e, h1, h2, h0, fun k hk => ?_⟩
  obtain ⟨b, off, ea, hcc⟩ := hc k hk
  refine ⟨b, off, ea, fun j y hy => ?_⟩
  have e1 : off + k * kT.k + j = off + k + j := by show off + k * 1 + j = _; omega
  rw [e1]
  cases j with
  | zero =>
    have : some (Value.string (ts.getD k ⟨#[]⟩)) = some y := hy
    rw [Nat.add_zero, hcc]; exact this
  | succ j => rw [List.getElem?_eq_none (by show 1 ≤ j + 1; omega)] at hy; cases hy
theorem two_row (w : World) (a b : ByteArray) : Row kT (w.alloc (.cells #[.string a, .string b] 9)) (.slice (some ⟨w.heap.size, 0, none⟩) 2 2) [a, b] := by
  refine row_strs ⟨some ⟨w.heap.size, 0, none⟩, 2, rfl, Nat.le_refl _, by decide, (fun h => by cases h), fun k hk => ⟨w.heap.size, 0, rfl, ?_⟩⟩
  rw [Nat.zero_add, World.cell?_alloc_new]
  match k, hk with
  | 0, _ => rfl
  | 1, _ => rfl
theorem strs_front {w : World} {g n c : Nat} {ts us : List ByteArray} (h : L.Strs w (.slice (some ⟨g, 0, none⟩) n c) (ts ++ us)) : L.Strs w (.slice (some ⟨g, 0, none⟩) ts.length c) ts := by
  obtain ⟨a, cap, e, h1, h2, h0, hc⟩ := h
  simp only [Value.slice.injEq] at e
  obtain ⟨rfl, _, rfl⟩ := e
  rw [List.length_append] at h1
  refine ⟨_, c, rfl, by omega, h2, h0, fun k hk => ?_⟩
  obtain ⟨b, off, ea, hcc⟩ := hc k (by rw [List.length_append]; omega)
  refine ⟨b, off, ea, ?_⟩
  rw [hcc, List.getD_eq_getElem?_getD, List.getElem?_append_left hk, ← List.getD_eq_getElem?_getD]
theorem turn_step (ts : List ByteArray) (i : Nat) (hi : i < ts.length) (x : ByteArray) : (List.replicate i x ++ ts.drop i).set i x = List.replicate (i + 1) x ++ ts.drop (i + 1) := by
  rw [List.set_append_right _ _ (by simp), List.length_replicate, Nat.sub_self, List.drop_eq_getElem_cons hi, List.set_cons_zero, List.replicate_succ', List.append_assoc]; rfl
theorem turn_len (ts : List ByteArray) (i : Nat) (hi : i ≤ ts.length) (x : ByteArray) : (List.replicate i x ++ ts.drop i).length = ts.length := by
  rw [List.length_append, List.length_replicate, List.length_drop]; omega
theorem turn_all (ts : List ByteArray) (x : ByteArray) : List.replicate ts.length x ++ ts.drop ts.length = List.replicate ts.length x := by rw [List.drop_length, List.append_nil]
/-- A row whose texts are turned one after the other. -/
structure Tn (w1 : World) (B : Nat) (a : Option Addr) (n c : Nat) (ts : List ByteArray) (x : ByteArray) (i : Nat) (W0 W : World) : Prop where
  own : L.OwnS w1.heap.size W (.slice a n c) (List.replicate i x ++ ts.drop i)
  lim : ∀ b, (Value.slice a n c).ownBlock = some b → b < B
  be : Below w1.heap.size w1 W
  hi : Hi B W0 W
theorem Tn.step {w1 : World} {B : Nat} {g n c : Nat} {ts : List ByteArray} {x : ByteArray} {i : Nat} {W0 W : World} (h : Tn w1 B (some ⟨g, 0, none⟩) n c ts x i W0 W) (hi : i < ts.length) : Tn w1 B (some ⟨g, 0, none⟩) n c ts x (i + 1) W0 (W.setCell ⟨g, i, none⟩ (.string x)) := by
  have q := ownS_set h.own i (by rw [turn_len ts i (Nat.le_of_lt hi)]; exact hi) x
  rw [turn_step ts i hi] at q
  exact ⟨q, h.lim, h.be.setCell (p := ⟨g, i, none⟩) ((h.own.lt g rfl).1) _, h.hi.trans (Hi.set W _ _ (h.lim g rfl))⟩
theorem copied_slice {B : Nat} {w : World} {v : Value} {ys : List L.Trm} (h : L.Copied B w v ys) : ∃ a c, v = .slice a ys.length c := by
  obtain ⟨_, ⟨hv, hn⟩ | ⟨g, cap, cur, hv, _⟩⟩ := h.1
  · exact ⟨none, 0, by rw [hv, hn]⟩
  · exact ⟨_, cap, hv⟩
/-- What Parse told, its slice taken apart. -/
theorem parsed_slice {B : Nat} {w : World} {v : Value} {ys : List L.Trm} (h : v = .slice none 0 0 ∧ ys = [] ∨ L.OwnTs B w v ys) : ∃ a n c g, v = .slice a n c ∧ n = ys.length ∧ n ≤ c ∧ (0 < n → a = some ⟨g, 0, none⟩ ∧ c = n ∧ TT g n w ys (fun k => (ys.getD k L.zeroT).ts) ∧ B ≤ g) := by
  rcases h with ⟨rfl, rfl⟩ | h
  · exact ⟨none, 0, 0, 0, rfl, rfl, Nat.le_refl _, fun q => absurd q (Nat.lt_irrefl _)⟩
  · have h' := h
    obtain ⟨⟨g, rfl, _⟩, _⟩ := h
    exact ⟨some ⟨g, 0, none⟩, ys.length, ys.length, g, rfl, rfl, Nat.le_refl _, fun _ => ⟨rfl, rfl, TT.of h'⟩⟩
theorem q3_start {wS wa wb wc : World} {g n : Nat} {u v : Value} {ys us vs : List L.Trm} (ht : 0 < n → TT g n wa ys (fun k => (ys.getD k L.zeroT).ts) ∧ wS.heap.size ≤ g) (hu : u = .slice none 0 0 ∧ us = [] ∨ L.OwnTs wa.heap.size wb u us) (hv : L.Copied wb.heap.size wc v vs) (ba : Below wS.heap.size wS wa) (bb : Below wa.heap.size wa wb) (bc : Below wb.heap.size wb wc) : Q3 wS g n wa.heap.size wb.heap.size u v us vs wc ys (fun k => (ys.getD k L.zeroT).ts) :=
  ⟨fun q => ((ht q).1.below bb).below bc, fun q => ⟨(ht q).1.row.lt, fun k hk b hb => (((ht q).1.own k hk).lt b hb).2⟩, fun q => (ht q).2, hu.imp id (fun q => ownTs_hi q (Hi.below bc)), hv, bb.size, (ba.trans (bb.mono ba.size)).trans (bc.mono (Nat.le_trans ba.size bb.size))⟩
theorem getD_set_str (l : List ByteArray) (j m : Nat) (x : ByteArray) (hj : j < l.length) : (l.set j x).getD m ⟨#[]⟩ = if j = m then x else l.getD m ⟨#[]⟩ := by
  simp only [List.getD_eq_getElem?_getD, List.getElem?_set]
  by_cases z : j = m
  · subst z; simp [hj]
  · simp [z]
theorem all_of_get {l : List ByteArray} {x : ByteArray} (h : ∀ m, m < l.length → l.getD m ⟨#[]⟩ = x) : ∀ t ∈ l, t = x := by
  intro t ht
  obtain ⟨k, hk, e⟩ := List.getElem_of_mem ht
  have q := h k hk
  rw [List.getD_eq_getElem?_getD, List.getElem?_eq_getElem hk] at q
  rw [← e]; exact q
end Go.Proofs.YtjlpcklcnabldaaDoor
