/-
  The document's read: lemmas.
-/
import Derived.Test.YthbbdhhkamccbaaDoorRefPc
import Derived.Test.YthbbdhhkamccbaaDoorRR
import Derived.Test.YthbbdhhkamccbaaDoorRdM
import Derived.RegionTactic
import Derived.Deep.RegionLaw
import Derived.Laws.ResultCell
namespace Go.Proofs.YthbbdhhkamccbaaDoor
open Go.RowKit Go.Sort
theorem results_one {fn : Func} {p : Tmp} {ty : TypeId} (h : fn.results = #[.cell p ty]) (tmps : Array Value) (P : Program) (w : World) :
    (results fn tmps).run P w = ((asAddr (tmps.getD p undef)).run P w).andThen fun a w₁ => (loadVar ty a).run P w₁ := by
  simp only [results, h]
  simp [Sem.run_bind, Result.andThen]
theorem mem_pieces (c : UInt8) (l : List UInt8) (u : List UInt8) (h : u ∈ pieces c l) : u.length ≤ l.length := by
  induction l generalizing u with
  | nil => simp [pieces] at h; subst h; simp
  | cons b l ih =>
    unfold pieces at h
    split at h
    · rw [List.mem_cons] at h
      rcases h with rfl | h
      · simp
      · have := ih u h; rw [List.length_cons]; omega
    · rw [List.mem_cons] at h
      rcases h with rfl | h
      · have hne := pieces_ne c l
        cases hp : pieces c l with
        | nil => exact absurd hp hne
        | cons x r =>
          have := ih x (by rw [hp]; simp)
          simp only [List.headD_cons, List.length_cons]
          omega
      · have := ih u (List.mem_of_mem_tail h); rw [List.length_cons]; omega
theorem pieces_len (c : UInt8) (l : List UInt8) : (pieces c l).length ≤ l.length + 1 := by
  induction l with
  | nil => simp [pieces]
  | cons b l ih =>
    have hne := pieces_ne c l
    unfold pieces
    split
    · rw [List.length_cons, List.length_cons]; omega
    · have : 0 < (pieces c l).length := List.length_pos_iff.2 hne
      rw [List.length_cons, List.length_tail, List.length_cons]; omega
theorem slen (s : ByteArray) : s.data.toList.length = s.size := by simp
theorem byte_at (s : ByteArray) (k : Nat) (h : k < s.size) : s.data.toList[k]? = some (s[k]'h) := by
  rw [List.getElem?_eq_getElem (by rw [slen]; exact h)]
  simp [ByteArray.getElem_eq_getElem_data]
theorem drop_byte (s : ByteArray) (k : Nat) (h : k < s.size) : s.data.toList.drop k = (s[k]'h) :: s.data.toList.drop (k + 1) := by
  rw [List.drop_eq_getElem_cons (by rw [slen]; exact h)]
  congr 1
theorem take_byte (s : ByteArray) (k : Nat) (h : k < s.size) : s.data.toList.take (k + 1) = s.data.toList.take k ++ [s[k]'h] := by
  rw [List.take_add_one, byte_at s k h]
  rfl
theorem ext_take (s : ByteArray) (k : Nat) : (s.extract 0 k).data.toList = s.data.toList.take k := by rw [Lib.extract_data]; simp
theorem ext_drop (s : ByteArray) (k : Nat) : (s.extract k s.size).data.toList = s.data.toList.drop k := by
  rw [Lib.extract_data, List.take_of_length_le (by rw [List.length_drop, slen]; omega)]
theorem size_three (W : World) (b : Nat) (x y z : Value) : (((W.setCell ⟨b, 0, none⟩ x).setCell ⟨b, 1, none⟩ y).setCell ⟨b, 2, none⟩ z).heap.size = W.heap.size := by simp
theorem own_new3 (W : World) (b : Nat) (x y z : Value) (t : ByteArray) : OwnS W.heap.size ((((W.setCell ⟨b, 0, none⟩ x).setCell ⟨b, 1, none⟩ y).setCell ⟨b, 2, none⟩ z).alloc (.cells #[.string t] 9)).drew (.slice (some ⟨W.heap.size, 0, none⟩) 1 1) [t] := by
  refine ⟨rfl, .inr ⟨W.heap.size, 1, #[.string t], rfl, Nat.le_refl _, ?_, Nat.le_refl _, by decide, rfl, rfl⟩⟩
  have h := heap_alloc_new (((W.setCell ⟨b, 0, none⟩ x).setCell ⟨b, 1, none⟩ y).setCell ⟨b, 2, none⟩ z) (.cells #[.string t] 9)
  rw [size_three] at h
  exact h
theorem three_at (W : World) (b : Nat) (x y z : Value) (o : Obj) (h : Zero3 W b) : ((((W.setCell ⟨b, 0, none⟩ x).setCell ⟨b, 1, none⟩ y).setCell ⟨b, 2, none⟩ z).alloc o).cell? ⟨b, 0, none⟩ = some x ∧ ((((W.setCell ⟨b, 0, none⟩ x).setCell ⟨b, 1, none⟩ y).setCell ⟨b, 2, none⟩ z).alloc o).cell? ⟨b, 1, none⟩ = some y ∧ ((((W.setCell ⟨b, 0, none⟩ x).setCell ⟨b, 1, none⟩ y).setCell ⟨b, 2, none⟩ z).alloc o).cell? ⟨b, 2, none⟩ = some z := by
  have l : b < (((W.setCell ⟨b, 0, none⟩ x).setCell ⟨b, 1, none⟩ y).setCell ⟨b, 2, none⟩ z).heap.size := by rw [size_three]; exact block_lt_of_cell h.1.1
  have hb := (Below.refl _ (((W.setCell ⟨b, 0, none⟩ x).setCell ⟨b, 1, none⟩ y).setCell ⟨b, 2, none⟩ z)).alloc (Nat.le_refl _) o
  have r := set3_at (w := W) (b := b) (x := x) (y := y) (z := z) (o := 0) (by rw [h.1.1]; rfl) (by rw [h.1.2.1]; rfl) (by rw [h.1.2.2]; rfl)
  exact ⟨(hb.cell (p := ⟨b, 0, none⟩) l).trans r.1, (hb.cell (p := ⟨b, 1, none⟩) l).trans r.2.1, (hb.cell (p := ⟨b, 2, none⟩) l).trans r.2.2⟩
/-- A term of one's own, in three cells. -/
def T3D (w : World) (b : Nat) (key : ByteArray) (how : Int) (vals : Value) : Prop := (w.cell? ⟨b, 0, none⟩ = some (.string key) ∧ w.cell? ⟨b, 1, none⟩ = some (.int .i64 how) ∧ w.cell? ⟨b, 2, none⟩ = some vals) ∧ w.frozen? ⟨b, 1, none⟩ = false ∧ w.frozen? ⟨b, 2, none⟩ = false
theorem T3D.set1 {w : World} {b : Nat} {key : ByteArray} {how : Int} {vals : Value} (h : T3D w b key how vals) (n : Int) : T3D (w.setCell ⟨b, 1, none⟩ (.int .i64 n)) b key n vals := by
  refine ⟨⟨?_, ?_, ?_⟩, by rw [World.frozen?_setCell]; exact h.2.1, by rw [World.frozen?_setCell]; exact h.2.2⟩
  · rw [World.cell?_setCell_other _ _ _ _ (by intro h; injection h; omega)]; exact h.1.1
  · exact World.cell?_setCell_same' _ _ _ (by rw [h.1.2.1]; rfl)
  · rw [World.cell?_setCell_other _ _ _ _ (by intro h; injection h; omega)]; exact h.1.2.2
theorem T3D.set2 {w : World} {b : Nat} {key : ByteArray} {how : Int} {vals : Value} (h : T3D w b key how vals) (v : Value) : T3D (w.setCell ⟨b, 2, none⟩ v) b key how v := by
  refine ⟨⟨?_, ?_, ?_⟩, by rw [World.frozen?_setCell]; exact h.2.1, by rw [World.frozen?_setCell]; exact h.2.2⟩
  · rw [World.cell?_setCell_other _ _ _ _ (by intro h; injection h; omega)]; exact h.1.1
  · rw [World.cell?_setCell_other _ _ _ _ (by intro h; injection h; omega)]; exact h.1.2.1
  · exact World.cell?_setCell_same' _ _ _ (by rw [h.1.2.2]; rfl)
theorem T3D.grown {w w' : World} {b : Nat} {key : ByteArray} {how : Int} {vals : Value} {row : Option Nat} (h : T3D w b key how vals) (hg : w.grownBy w' row) (hr : row ≠ some b) : T3D w' b key how vals := by
  have l := block_lt_of_cell h.1.1
  have e := hg.block b l (fun x => hr x.symm)
  exact ⟨⟨(World.cell?_of_block (a := ⟨b, 0, none⟩) e).trans h.1.1, (World.cell?_of_block (a := ⟨b, 1, none⟩) e).trans h.1.2.1, (World.cell?_of_block (a := ⟨b, 2, none⟩) e).trans h.1.2.2⟩, (World.frozen?_of_block (a := ⟨b, 1, none⟩) e).trans h.2.1, (World.frozen?_of_block (a := ⟨b, 2, none⟩) e).trans h.2.2⟩
theorem Zero3.set_ne {w : World} {b : Nat} (h : Zero3 w b) {p : Addr} (hp : p.block ≠ b) (v : Value) : Zero3 (w.setCell p v) b := by
  have e : ∀ i, (⟨b, i, none⟩ : Addr) ≠ p := fun i e => hp (by rw [← e])
  refine ⟨⟨?_, ?_, ?_⟩, ?_, ?_, ?_⟩
  · rw [World.cell?_setCell_other _ _ _ _ (fun x => e 0 x.symm)]; exact h.1.1
  · rw [World.cell?_setCell_other _ _ _ _ (fun x => e 1 x.symm)]; exact h.1.2.1
  · rw [World.cell?_setCell_other _ _ _ _ (fun x => e 2 x.symm)]; exact h.1.2.2
  · rw [World.frozen?_setCell]; exact h.2.1
  · rw [World.frozen?_setCell]; exact h.2.2.1
  · rw [World.frozen?_setCell]; exact h.2.2.2
theorem Zero3.grown {w w' : World} {b : Nat} {row : Option Nat} (h : Zero3 w b) (hg : w.grownBy w' row) (hr : row ≠ some b) : Zero3 w' b := by
  have l := block_lt_of_cell h.1.1
  have e := hg.block b l (fun x => hr x.symm)
  exact ⟨⟨(World.cell?_of_block (a := ⟨b, 0, none⟩) e).trans h.1.1, (World.cell?_of_block (a := ⟨b, 1, none⟩) e).trans h.1.2.1, (World.cell?_of_block (a := ⟨b, 2, none⟩) e).trans h.1.2.2⟩, (World.frozen?_of_block (a := ⟨b, 0, none⟩) e).trans h.2.1, (World.frozen?_of_block (a := ⟨b, 1, none⟩) e).trans h.2.2.1, (World.frozen?_of_block (a := ⟨b, 2, none⟩) e).trans h.2.2.2⟩
theorem svals_len (P : List (List UInt8)) : (svals P).length = P.length - 1 := by unfold svals; simp
theorem svals_step (P : List (List UInt8)) (j : Nat) (h1 : 1 ≤ j) (h : j < P.length) : (svals P).take j = (svals P).take (j - 1) ++ [adj P.length j (P.getD j [])] := by
  obtain ⟨i, rfl⟩ : ∃ i, j = i + 1 := ⟨j - 1, by omega⟩
  rw [Nat.add_sub_cancel, List.take_add_one]
  congr 1
  unfold svals
  rw [List.getElem?_map, List.getElem?_range (by omega)]
  rfl
theorem adj_le (n j : Nat) (v : List UInt8) : (adj n j v).length ≤ v.length := by
  unfold adj
  split <;> split <;> simp <;> omega
theorem svals_small (P : List (List UInt8)) (m : Nat) (h : ∀ u ∈ P, u.length ≤ m) : ∀ u ∈ svals P, u.length ≤ m := by
  intro u hu
  unfold svals at hu
  obtain ⟨i, hi, rfl⟩ := List.mem_map.1 hu
  rw [List.mem_range] at hi
  refine Nat.le_trans (adj_le _ _ _) (h _ ?_)
  rw [List.getD_eq_getElem?_getD, List.getElem?_eq_getElem (by omega)]
  exact List.getElem_mem _
theorem map_bytes (P : List (List UInt8)) : (P.map bytesOf).map (·.data.toList) = P := by
  rw [List.map_map]
  conv => rhs; rw [← List.map_id P]
  congr 1
end Go.Proofs.YthbbdhhkamccbaaDoor
