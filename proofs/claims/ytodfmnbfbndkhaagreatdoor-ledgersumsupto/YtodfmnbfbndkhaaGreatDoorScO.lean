/-
  The law's copy of an object: own.
-/
import Derived.Test.YtodfmnbfbndkhaaGreatDoorScI
import Derived.Laws.AppendOwnNone
namespace Go.Proofs.YtodfmnbfbndkhaaGreatDoor
open Go.RowKit
theorem grown_set (w : World) (b i : Nat) (v : Value) : w.grownBy (w.setCell ⟨b, i, none⟩ v) (some b) := by
  refine ⟨rfl, rfl, rfl, by simp [World.setCell], fun k _ hne => ?_⟩
  exact Below.heap_setCell _ _ _ _ (by intro e; exact hne (congrArg some e))
variable {α : Type} {K : Kd α}
theorem OwnR.grownO {B : Nat} {w w' : World} {v : Value} {l : List α} {r : Option Nat} (H : OwnR K B w v l) (hg : w.grownBy w' r) (hne : ∀ k, v.ownBlock = some k → some k ≠ r) : OwnR K B w' v l := by
  obtain ⟨h1, h | ⟨g, cap, cur, hv, hB, hg', hr⟩⟩ := H
  · exact ⟨h1, .inl h⟩
  · have hlt : g < w.heap.size := by
      rcases Nat.lt_or_ge g w.heap.size with q | q
      · exact q
      · rw [Array.getElem?_eq_none q] at hg'; simp at hg'
    subst hv
    exact ⟨h1, .inr ⟨g, cap, cur, rfl, hB, by rw [hg.block g hlt (hne g rfl)]; exact hg', hr⟩⟩
/-- An append of a whole row. -/
theorem app_rows (ok : K.Ok) {ops : Array Oper} {rest : List Oper} {o : Oper} {a : Act} {Q : Exit → Act → World → Prop} (hgd : o.guard = none) (s x : Operand)
    (ho : o.op = .call { callee := .builtin .append, args := #[s, x], argTypes := #[K.s, K.s] })
    {B : Nat} {w : World} {v u : Value} {l m : List α} (hs : a.eval s = v) (hown : OwnR K B w v l) (hB : B ≤ w.heap.size) (hx : a.eval x = u) (hu : Row K w u m) (hl : (l.length + m.length) * K.b ≤ 140737488355328)
    (h : ∀ v' w', OwnR K B w' v' (l ++ m) → w.grownBy w' v.ownBlock → wpList Tryz.prog ops Q rest (a.put o.dst v') w') :
    wpList Tryz.prog ops Q (o :: rest) a w := by
  obtain ⟨zv, hinf, hzc⟩ := ok.inf
  obtain ⟨i0, hi, hz0, hz1, hz2⟩ := info_parts hinf
  have hb := ok.by0
  obtain ⟨ad, cap, rfl, hlc, hcm, hn, hc⟩ := hu
  cases ad with
  | none =>
    obtain rfl := hn rfl
    obtain rfl : m = [] := by simpa using hlc
    refine wpList_append_own_none hgd s x K.s ho B K.t i0 K.k ok.und hi v l.length (cellsR K l) hs hown hx ?_
    exact h v w (by simpa using hown) ⟨rfl, rfl, rfl, Nat.le_refl _, fun _ _ _ => rfl⟩
  | some ad =>
    refine wpList_append_own_at w hgd s x K.s ho B K.t i0 _ K.k K.b ok.und hi hz0 hz1 hz2 hzc ok.pos v l.length (cellsR K l) hs hown ad m.length cap (cellsR K m) hx (by rw [cellsR_length ok]) ?_ (cellsR_one ok m) (by have := Nat.le_mul_of_pos_right (l.length + m.length) hb.1; unfold maxLen; omega) hl hB ?_
    · intro j y hj
      have hjl : j < m.length * K.k := by
        rcases Nat.lt_or_ge j (m.length * K.k) with q | q
        · exact q
        · rw [List.getElem?_eq_none (by rw [cellsR_length ok]; exact q)] at hj; simp at hj
      have hkp := ok.pos
      have hq : j / K.k < m.length := Nat.div_lt_of_lt_mul (by rw [Nat.mul_comm]; exact hjl)
      have hr : j % K.k < K.k := Nat.mod_lt _ hkp
      have e : j = j / K.k * K.k + j % K.k := by rw [Nat.mul_comm]; exact (Nat.div_add_mod j K.k).symm
      obtain ⟨b, off, ea, hcc⟩ := hc (j / K.k) hq
      simp only [Option.some.injEq] at ea
      subst ea
      rw [add_plain]
      rw [e, cellsR_at ok m _ hq _ hr] at hj
      have := hcc _ _ hj
      rw [e, ← Nat.add_assoc]
      exact this
    · intro v' w' h1 h2 _ _
      refine h v' w' ?_ h2
      show w'.ownsRow _ _ _ _ _ _
      rw [cellsR_app, List.length_append]; exact h1
/-- The parts' lists are the call's own. -/
def Nst (B : Nat) (w : World) (rs : List Pr) (ps : List Pt) : Prop := rs.length = ps.length ∧ ∀ k, k < ps.length → (rs.getD k kPt.z).n = (ps.getD k ⟨⟨#[]⟩, [], []⟩).n ∧ OwnR kAm B w (rs.getD k kPt.z).r.v (ps.getD k ⟨⟨#[]⟩, [], []⟩).r ∧ OwnR kAm B w (rs.getD k kPt.z).l.v (ps.getD k ⟨⟨#[]⟩, [], []⟩).l
theorem Nst.below {B : Nat} {w w' : World} {rs : List Pr} {ps : List Pt} (h : Nst B w rs ps) (hb : Below w.heap.size w w') : Nst B w' rs ps :=
  ⟨h.1, fun k hk => ⟨(h.2 k hk).1, (h.2 k hk).2.1.below hb, (h.2 k hk).2.2.below hb⟩⟩
theorem Nst.grown {B B' : Nat} {w w' : World} {rs rs' : List Pr} {ps : List Pt} {v : Value} (h : Nst B w rs ps) (H : OwnR kPt B' w v rs') (hg : w.grownBy w' v.ownBlock) : Nst B w' rs ps :=
  ⟨h.1, fun k hk => ⟨(h.2 k hk).1, (h.2 k hk).2.1.grownO hg (fun j e => (h.2 k hk).2.1.apart H (by decide) j e), (h.2 k hk).2.2.grownO hg (fun j e => (h.2 k hk).2.2.apart H (by decide) j e)⟩⟩
theorem getD_snoc {β : Type} (l : List β) (x d : β) (k : Nat) : (l ++ [x]).getD k d = if k < l.length then l.getD k d else if k = l.length then x else d := by
  rw [List.getD_eq_getElem?_getD, List.getD_eq_getElem?_getD]
  by_cases h : k < l.length
  · rw [if_pos h, List.getElem?_append_left h]
  · rw [if_neg h, List.getElem?_append_right (by omega)]
    by_cases e : k = l.length
    · rw [if_pos e, e, Nat.sub_self]; rfl
    · rw [if_neg e, List.getElem?_eq_none (by simp; omega)]; rfl
theorem Nst.snoc {B : Nat} {w : World} {rs : List Pr} {ps : List Pt} (h : Nst B w rs ps) {x : Pr} {p : Pt} (hn : x.n = p.n) (h1 : OwnR kAm B w x.r.v p.r) (h2 : OwnR kAm B w x.l.v p.l) : Nst B w (rs ++ [x]) (ps ++ [p]) := by
  refine ⟨by simp [h.1], fun k hk => ?_⟩
  rw [List.length_append, List.length_singleton] at hk
  rw [getD_snoc, getD_snoc, h.1]
  by_cases q : k < ps.length
  · rw [if_pos q, if_pos q]; exact h.2 k q
  · have e : k = ps.length := by omega
    rw [if_neg q, if_neg q, if_pos e, if_pos e]; exact ⟨hn, h1, h2⟩
theorem Nst.pts {B : Nat} {w : World} {rs : List Pr} {ps : List Pt} {v : Value} (h : Nst B w rs ps) (H : OwnR kPt B w v rs) : Pts w v ps :=
  ⟨rs, H.row okPt, h.1, fun k hk => ⟨(h.2 k hk).1, (h.2 k hk).2.1.row okAm, (h.2 k hk).2.2.row okAm⟩⟩
end Go.Proofs.YtodfmnbfbndkhaaGreatDoor
