/-
  Three answers apart.
-/
import Derived.Test.YtggpiikiplogmaaDoorFixed
namespace Go.Proofs.YtggpiikiplogmaaDoor
open Go.RowKit
theorem OwnS.mono {B B' : Nat} {w : World} {v : Value} {l : List ByteArray} (H : OwnS B w v l) (h : B' ≤ B) : OwnS B' w v l := by
  obtain ⟨h1, h2 | ⟨g, cap, cur, hv, hB, hr⟩⟩ := H
  · exact ⟨h1, .inl h2⟩
  · exact ⟨h1, .inr ⟨g, cap, cur, hv, by omega, hr⟩⟩
theorem OwnS.shape {B : Nat} {w : World} {v : Value} {l : List ByteArray} (H : OwnS B w v l) (h : l ≠ []) : ∃ g cap, v = .slice (some ⟨g, 0, none⟩) l.length cap ∧ l.length ≤ cap ∧ cap ≤ maxLen ∧ B ≤ g ∧ g < w.heap.size := by
  have hlt := H.lt
  obtain ⟨h1, ⟨_, h2⟩ | ⟨g, cap, cur, hv, hB, hg, hn, hm, _⟩⟩ := H
  · exact absurd (List.eq_nil_of_length_eq_zero h2) h
  · subst hv
    exact ⟨g, cap, rfl, hn, hm, hB, (hlt g rfl).2⟩
theorem grown_set (w : World) (g k : Nat) (u : Value) : w.grownBy (w.setCell ⟨g, k, none⟩ u) (some g) :=
  ⟨rfl, rfl, rfl, by simp [World.setCell], fun j _ hj => Below.heap_setCell _ _ _ _ (fun e => hj (by rw [e]))⟩
/-- One text more, and where it lies. -/
theorem app_txt2 {ops : Array Oper} {rest : List Oper} {o : Oper} {a : Act} {Q : Exit → Act → World → Prop} (hgd : o.guard = none) (s y : Operand)
    (ho : o.op = .call { callee := .builtin .append, args := #[s, y], argTypes := #[28, 28] })
    {B : Nat} {w0 : World} {v : Value} {ts : List ByteArray} (hs : a.eval s = v) (hown : OwnS B w0 v ts) (hB : B ≤ w0.heap.size) (t : ByteArray)
    (hy : a.eval y = .slice (some ⟨w0.heap.size, 0, none⟩) 1 1) (hl : (ts.length + 1) * 16 ≤ 140737488355328)
    (h : ∀ v' w', OwnS B w' v' (ts ++ [t]) → w0.grownBy w' v.ownBlock → (∀ k, v'.ownBlock = some k → v.ownBlock = some k ∨ w0.heap.size ≤ k) → wpList Tryd.prog ops Q rest (a.put o.dst v') w') :
    wpList Tryd.prog ops Q (o :: rest) a (w0.alloc (.cells #[.string t] 9)) := by
  obtain ⟨i0, hi, hz0, hz1, hz2⟩ := info_parts info_str
  refine wpList_append_own_at _ hgd s y 28 ho B 9 i0 _ 1 16 Tryd.underlying28 hi hz0 hz1 hz2 rfl (by decide) v ts.length (cellsS ts) hs (World.ownsRow.alloc hown _) ⟨w0.heap.size, 0, none⟩ 1 1 [.string t] hy rfl ?_ ?_ (by unfold maxLen; omega) (by omega) (by simp; omega) ?_
  · intro j u hj
    rw [add_plain, Nat.zero_add, World.cell?_alloc_new, ← Array.getElem?_toList]; exact hj
  · intro v hv; simp only [List.mem_cons, List.not_mem_nil, or_false] at hv; rw [hv]; rfl
  · intro v' w' h1 h2 _ h4
    refine h v' w' ?_ (grown_alloc h2) ?_
    · show w'.ownsRow _ _ _ _ _ _
      have e : cellsS (ts ++ [t]) = cellsS ts ++ [.string t] := by simp [cellsS]
      rw [e, List.length_append]; exact h1
    · intro k hk
      rcases h4 with h4 | h4
      · exact .inl (by rw [← h4]; exact hk)
      · rw [h4] at hk
        simp only [Option.some.injEq] at hk
        exact .inr (by rw [← hk]; simp)
/-- Two values whose rows are not the same. -/
def Ap (v v' : Value) : Prop := ∀ k, v.ownBlock = some k → v'.ownBlock ≠ some k
theorem Ap.symm {v v' : Value} (h : Ap v v') : Ap v' v := fun k h1 h2 => h k h2 h1
theorem Ap.of_lt {B B' : Nat} {w w' : World} {v v' : Value} {l l' : List ByteArray} (h : OwnS B w v l) (h' : OwnS B' w' v' l') (hs : w.heap.size ≤ B') : Ap v v' := fun k h1 h2 => by
  have a := (h.lt k h1).2
  have b := (h'.lt k h2).1
  omega
theorem Ap.grown {w : World} {B : Nat} {v v' u : Value} {l : List ByteArray} (h : Ap v u) (hu : OwnS B w u l) (hw : ∀ k, v'.ownBlock = some k → v.ownBlock = some k ∨ w.heap.size ≤ k) : Ap v' u := fun k h1 h2 => by
  rcases hw k h1 with h3 | h3
  · exact h k h3 h2
  · have := (hu.lt k h2).2
    omega
theorem Ap.kept {w w' : World} {B : Nat} {v u : Value} {l : List ByteArray} (h : Ap v u) (hu : OwnS B w u l) (hg : w.grownBy w' v.ownBlock) : OwnS B w' u l :=
  hu.grown _ hg (by
    cases hub : u.ownBlock with
    | none => exact .inl rfl
    | some k => exact .inr (fun e => h k e.symm hub))
def oneT : ByteArray := ⟨#[111, 110, 101]⟩
def twoT : ByteArray := ⟨#[116, 119, 111]⟩
def threeT : ByteArray := ⟨#[116, 104, 114, 101, 101]⟩
def ones (ts : List ByteArray) (i : Nat) : List ByteArray := List.replicate i oneT ++ ts.drop i
theorem ones_length (ts : List ByteArray) (i : Nat) (h : i ≤ ts.length) : (ones ts i).length = ts.length := by
  unfold ones
  rw [List.length_append, List.length_replicate, List.length_drop]; omega
theorem ones_set (ts : List ByteArray) (i : Nat) (h : i < ts.length) : (ones ts i).set i oneT = ones ts (i + 1) := by
  unfold ones
  rw [List.set_append_right _ _ (by simp), List.length_replicate, Nat.sub_self, List.replicate_succ', List.append_assoc]
  congr 1
  rw [List.drop_eq_getElem_cons h]
  rfl
/-- The three answers. -/
structure Three (B : Nat) (w0 w : World) (va vb vc : Value) (la lb lc : List ByteArray) : Prop where
  a : OwnS B w va la
  b : OwnS B w vb lb
  c : OwnS B w vc lc
  ab : Ap va vb
  ac : Ap va vc
  bc : Ap vb vc
  low : Below w0.heap.size w0 w
  up : w0.heap.size ≤ B
  room : B ≤ w.heap.size
theorem Three.set {B : Nat} {w0 w : World} {g n cap : Nat} {vb vc : Value} {la lb lc : List ByteArray} (H : Three B w0 w (.slice (some ⟨g, 0, none⟩) n cap) vb vc la lb lc) (k : Nat) (hk : k < la.length) (x : ByteArray) :
    Three B w0 (w.setCell ⟨g, k, none⟩ (.string x)) (.slice (some ⟨g, 0, none⟩) n cap) vb vc (la.set k x) lb lc := by
  obtain ⟨s1, s2, _⟩ := H.a.set k hk x
  exact ⟨s1, H.ab.kept H.b (grown_set w g k _), H.ac.kept H.c (grown_set w g k _), H.ab, H.ac, H.bc, H.low.setCell (p := ⟨g, k, none⟩) (Nat.le_trans H.up s2) _, H.up, by simp [World.setCell]; exact H.room⟩
theorem Three.growA {B : Nat} {w0 w w' : World} {va va' vb vc : Value} {la la' lb lc : List ByteArray} (H : Three B w0 w va vb vc la lb lc) (h1 : OwnS B w' va' la') (h2 : w.grownBy w' va.ownBlock) (h3 : ∀ k, va'.ownBlock = some k → va.ownBlock = some k ∨ w.heap.size ≤ k) :
    Three B w0 w' va' vb vc la' lb lc :=
  ⟨h1, H.ab.kept H.b h2, H.ac.kept H.c h2, Ap.grown H.ab H.b h3, Ap.grown H.ac H.c h3, H.bc, H.low.grown h2 H.low.size (fun k hk => Nat.le_trans H.up (H.a.lt k hk).1), H.up, Nat.le_trans H.room h2.size⟩
theorem Three.growB {B : Nat} {w0 w w' : World} {va vb vb' vc : Value} {la lb lb' lc : List ByteArray} (H : Three B w0 w va vb vc la lb lc) (h1 : OwnS B w' vb' lb') (h2 : w.grownBy w' vb.ownBlock) (h3 : ∀ k, vb'.ownBlock = some k → vb.ownBlock = some k ∨ w.heap.size ≤ k) :
    Three B w0 w' va vb' vc la lb' lc :=
  ⟨H.ab.symm.kept H.a h2, h1, H.bc.kept H.c h2, (Ap.grown H.ab.symm H.a h3).symm, H.ac, Ap.grown H.bc H.c h3, H.low.grown h2 H.low.size (fun k hk => Nat.le_trans H.up (H.b.lt k hk).1), H.up, Nat.le_trans H.room h2.size⟩
theorem make_err (ts : List ByteArray) (h : (makeR ts).2 ≠ 0) : (makeR ts).2 = 1 ∨ (makeR ts).2 = 23 := by
  unfold makeR at *
  split
  · exact .inl rfl
  · split
    · exact .inr rfl
    · rename_i h1 h2
      exact absurd rfl (by rw [if_neg h1, if_neg h2] at h; exact h)
end Go.Proofs.YtggpiikiplogmaaDoor
