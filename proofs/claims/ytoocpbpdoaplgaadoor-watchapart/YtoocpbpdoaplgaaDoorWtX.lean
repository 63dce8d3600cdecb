/-
  The document's placed, text.
-/
import Derived.Test.YtoocpbpdoaplgaaDoorWtV
namespace Go.Proofs.YtoocpbpdoaplgaaDoor
open Go.RowKit Go.Sort
namespace Wt
/-- What placed leaves behind k texts, and whether it is done. -/
def plS (t : ByteArray) (p : List ByteArray × Bool) (z : ByteArray) : List ByteArray × Bool :=
  if z = t then (p.1 ++ [z], true) else if p.2 = false ∧ t.data.toList < z.data.toList then (p.1 ++ [t] ++ [z], true) else (p.1 ++ [z], p.2)
def plK (t : ByteArray) (l : List ByteArray) : List ByteArray × Bool := l.foldl (plS t) ([], false)
def plR (t : ByteArray) (l : List ByteArray) : List ByteArray := if (plK t l).2 = true then (plK t l).1 else (plK t l).1 ++ [t]
theorem plK_succ (t : ByteArray) (l : List ByteArray) (k : Nat) (h : k < l.length) : plK t (l.take (k + 1)) = plS t (plK t (l.take k)) (l.getD k ⟨#[]⟩) := by
  unfold plK; rw [take_onez l k ⟨#[]⟩ h, List.foldl_append]; rfl
theorem plS_len (t : ByteArray) (p : List ByteArray × Bool) (z : ByteArray) : (plS t p z).1.length ≤ p.1.length + 2 := by
  unfold plS; split
  · simp
  · split <;> simp
theorem plK_len (t : ByteArray) (l : List ByteArray) : ∀ k, k ≤ l.length → (plK t (l.take k)).1.length ≤ 2 * k := by
  intro k
  induction k with
  | zero => intro _; simp [plK]
  | succ k ih =>
    intro h
    rw [plK_succ t l k (by omega)]
    have := plS_len t (plK t (l.take k)) (l.getD k ⟨#[]⟩)
    have := ih (by omega)
    omega
/-- Rising. -/
abbrev Up (l : List ByteArray) : Prop := l.Pairwise (fun a b => a.data.toList < b.data.toList)
theorem lt_cases {a b : List UInt8} (h : a ≠ b) : a < b ∨ b < a := by
  rcases Classical.em (a < b) with q | q
  · exact .inl q
  · refine .inr (Classical.byContradiction fun c => h (List.le_antisymm c q))
theorem Up.snoc {l : List ByteArray} {z : ByteArray} (h : Up l) (hz : ∀ y ∈ l, y.data.toList < z.data.toList) : Up (l ++ [z]) :=
  List.pairwise_append.2 ⟨h, by simp, fun a ha b hb => by rw [List.mem_singleton.1 hb]; exact hz a ha⟩
theorem data_ne {a b : ByteArray} (h : a ≠ b) : a.data.toList ≠ b.data.toList := fun e => h (data_inj e)
theorem plK_ok (t : ByteArray) (l : List ByteArray) (h : Up l) : ((plK t l).2 = false → (plK t l).1 = l ∧ ∀ z ∈ l, z.data.toList < t.data.toList) ∧ ((plK t l).2 = true → Up (plK t l).1 ∧ ∀ z, z ∈ (plK t l).1 ↔ z ∈ l ∨ z = t) := by
  have key : ∀ k, k ≤ l.length → ((plK t (l.take k)).2 = false → (plK t (l.take k)).1 = l.take k ∧ ∀ z ∈ l.take k, z.data.toList < t.data.toList) ∧ ((plK t (l.take k)).2 = true → Up (plK t (l.take k)).1 ∧ (∀ z, z ∈ (plK t (l.take k)).1 ↔ z ∈ l.take k ∨ z = t) ∧ ∀ z ∈ l.drop k, t.data.toList < z.data.toList) := by
    intro k
    induction k with
    | zero => intro _; simp [plK]
    | succ k ih =>
      intro hk
      have hkl : k < l.length := by omega
      obtain ⟨i1, i2⟩ := ih (by omega)
      rw [plK_succ t l k hkl, take_onez l k ⟨#[]⟩ hkl]
      have hd : l.drop k = l.getD k ⟨#[]⟩ :: l.drop (k + 1) := by rw [List.drop_eq_getElem_cons hkl, List.getD_eq_getElem?_getD, List.getElem?_eq_getElem hkl]; rfl
      have hup := h
      rw [← List.take_append_drop k l] at hup
      obtain ⟨u1, u2, u3⟩ := List.pairwise_append.1 hup
      rw [hd] at u2 u3
      have u4 := (List.pairwise_cons.1 u2).1
      generalize l.getD k ⟨#[]⟩ = z at *
      generalize plK t (l.take k) = p at *
      have hz : ∀ y ∈ l.take k, y.data.toList < z.data.toList := fun y hy => u3 y hy z (by simp)
      cases hp : p.2 with
      | false =>
        obtain ⟨j1, j2⟩ := i1 hp
        by_cases e : z = t
        · have s : plS t p z = (p.1 ++ [z], true) := by unfold plS; rw [if_pos e]
          rw [s, j1]
          refine ⟨fun q => by simp at q, fun _ => ⟨Up.snoc u1 hz, fun y => ?_, fun y hy => by rw [← e]; exact u4 y hy⟩⟩
          rw [List.mem_append, List.mem_singleton, e]
          constructor
          · exact fun q => .inl q
          · rintro (q | q)
            · exact q
            · exact .inr q
        · by_cases hlt : t.data.toList < z.data.toList
          · have s : plS t p z = (p.1 ++ [t] ++ [z], true) := by unfold plS; rw [if_neg e, if_pos ⟨hp, hlt⟩]
            rw [s, j1]
            refine ⟨fun q => by simp at q, fun _ => ⟨Up.snoc (Up.snoc u1 j2) (fun y hy => ?_), fun y => ?_, fun y hy => List.lt_trans hlt (u4 y hy)⟩⟩
            · rcases List.mem_append.1 hy with q | q
              · exact hz y q
              · rw [List.mem_singleton.1 q]; exact hlt
            · simp only [List.mem_append, List.mem_singleton]
              constructor
              · rintro ((q | q) | q)
                · exact .inl (.inl q)
                · exact .inr q
                · exact .inl (.inr q)
              · rintro ((q | q) | q)
                · exact .inl (.inl q)
                · exact .inr q
                · exact .inl (.inr q)
          · have s : plS t p z = (p.1 ++ [z], p.2) := by unfold plS; rw [if_neg e, if_neg (fun q => hlt q.2)]
            rw [s, j1, hp]
            refine ⟨fun _ => ⟨rfl, fun y hy => ?_⟩, fun q => by simp at q⟩
            rcases List.mem_append.1 hy with q | q
            · exact j2 y q
            · rw [List.mem_singleton.1 q]
              rcases lt_cases (data_ne e) with c | c
              · exact c
              · exact absurd c hlt
      | true =>
        obtain ⟨j1, j2, j3⟩ := i2 hp
        have tz : t.data.toList < z.data.toList := j3 z (by rw [hd]; simp)
        have e : z ≠ t := fun q => by rw [q] at tz; exact absurd tz (List.lt_irrefl _)
        have s : plS t p z = (p.1 ++ [z], p.2) := by unfold plS; rw [if_neg e, if_neg (fun q => by rw [hp] at q; cases q.1)]
        rw [s, hp]
        refine ⟨fun q => by simp at q, fun _ => ⟨Up.snoc j1 (fun y hy => ?_), fun y => ?_, fun y hy => List.lt_trans tz (u4 y hy)⟩⟩
        · rcases (j2 y).1 hy with q | q
          · exact hz y q
          · rw [q]; exact tz
        · simp only [List.mem_append, List.mem_singleton, j2 y]
          constructor
          · rintro ((q | q) | q)
            · exact .inl (.inl q)
            · exact .inr q
            · exact .inl (.inr q)
          · rintro ((q | q) | q)
            · exact .inl (.inl q)
            · exact .inr q
            · exact .inl (.inr q)
  have := key l.length (Nat.le_refl _)
  rw [List.take_length] at this
  exact ⟨this.1, fun q => ⟨(this.2 q).1, (this.2 q).2.1⟩⟩
theorem plR_ok (t : ByteArray) (l : List ByteArray) (h : Up l) : Up (plR t l) ∧ ∀ z, z ∈ plR t l ↔ z ∈ l ++ [t] := by
  obtain ⟨h1, h2⟩ := plK_ok t l h
  unfold plR
  cases hp : (plK t l).2 with
  | false =>
    obtain ⟨j1, j2⟩ := h1 hp
    rw [if_neg (by simp), j1]
    exact ⟨Up.snoc h j2, fun z => Iff.rfl⟩
  | true =>
    obtain ⟨j1, j2⟩ := h2 hp
    rw [if_pos rfl]
    exact ⟨j1, fun z => by rw [j2 z]; simp⟩
end Wt
end Go.Proofs.YtoocpbpdoaplgaaDoor
