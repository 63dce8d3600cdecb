/-
  LISTS OF AMOUNTS: slices that hold them; behind, same, untouched; Of, both.
-/
import Derived.Test.YtmkdmfjdhajiaaaGreatDoorNormK
import Derived.Maps.AppendAt
import Derived.Laws.AppendOwnNone
namespace Go.Proofs.YtmkdmfjdhajiaaaGreatDoor
open Go.RowKit Go.Sort Go.Lib
/-- The slice v holds the amounts xs. -/
def Amts (w : World) (v : Value) (xs : List Amt) : Prop :=
  ∃ a cap, v = .slice a xs.length cap ∧ xs.length ≤ cap ∧ cap ≤ maxLen ∧ (a = none → cap = 0) ∧ (∀ k, k < xs.length → ∃ b off, a = some ⟨b, off, none⟩ ∧ w.cell? ⟨b, off + k * 2, none⟩ = some (.string (xs.getD k (⟨#[]⟩, 0)).1) ∧ w.cell? ⟨b, off + k * 2 + 1, none⟩ = some (.int .i64 (xs.getD k (⟨#[]⟩, 0)).2))
theorem Amts.below {w w' : World} {v : Value} {xs : List Amt} (H : Amts w v xs) (hb : Below w.heap.size w w') : Amts w' v xs := by
  obtain ⟨a, cap, e, h1, h2, h0, h3⟩ := H
  refine ⟨a, cap, e, h1, h2, h0, fun k hk => ?_⟩
  obtain ⟨b, off, ea, c0, c1⟩ := h3 k hk
  exact ⟨b, off, ea, (hb.cell (block_lt_of_cell c0)).trans c0, (hb.cell (block_lt_of_cell c1)).trans c1⟩
theorem Amts.len {w : World} {v : Value} {xs : List Amt} (H : Amts w v xs) : ∃ a cap, v = .slice a xs.length cap ∧ xs.length ≤ cap ∧ cap ≤ maxLen := by
  obtain ⟨a, cap, h, h1, h2, _⟩ := H; exact ⟨a, cap, h, h1, h2⟩
theorem Amts.at {w : World} {a : Option Addr} {n cap : Nat} {xs : List Amt} (H : Amts w (.slice a n cap) xs) (k : Nat) (hk : k < xs.length) : ∃ b off, a = some ⟨b, off, none⟩ ∧ w.cell? ⟨b, off + k * 2, none⟩ = some (.string (xs.getD k (⟨#[]⟩, 0)).1) ∧ w.cell? ⟨b, off + k * 2 + 1, none⟩ = some (.int .i64 (xs.getD k (⟨#[]⟩, 0)).2) := by
  obtain ⟨a', cap', e', _, _, _, hc⟩ := H
  simp only [Value.slice.injEq] at e'
  obtain ⟨rfl, rfl, rfl⟩ := e'
  exact hc k hk
/-- The first of a slice. -/
theorem Amts.front {w : World} {a : Option Addr} {n cap : Nat} {xs ys : List Amt} (H : Amts w (.slice a n cap) (xs ++ ys)) (_hne : ys ≠ []) : Amts w (.slice a xs.length cap) xs := by
  obtain ⟨a', cap', e', h1, h2, h0, hc⟩ := H
  simp only [Value.slice.injEq] at e'
  obtain ⟨rfl, rfl, rfl⟩ := e'
  rw [List.length_append] at h1
  refine ⟨a, cap, rfl, by omega, h2, h0, fun k hk => ?_⟩
  obtain ⟨b, off, ea, c0, c1⟩ := hc k (by rw [List.length_append]; omega)
  have e : (xs ++ ys).getD k (⟨#[]⟩, 0) = xs.getD k (⟨#[]⟩, 0) := by
    rw [List.getD_eq_getElem?_getD, List.getD_eq_getElem?_getD, List.getElem?_append_left hk]
  rw [e] at c0 c1
  exact ⟨b, off, ea, c0, c1⟩
/-- The cells of a list. -/
def cellsA (xs : List Amt) : List Value := xs.flatMap encA
theorem cellsA_length (xs : List Amt) : (cellsA xs).length = xs.length * 2 := by
  induction xs with
  | nil => rfl
  | cons x r ih => rw [cellsA, List.flatMap_cons, ← cellsA, List.length_append, ih, List.length_cons]; simp [encA]; omega
theorem cellsA_at (xs : List Amt) (k : Nat) (h : k < xs.length) : (cellsA xs)[k * 2]? = some (.string (xs.getD k (⟨#[]⟩, 0)).1) ∧ (cellsA xs)[k * 2 + 1]? = some (.int .i64 (xs.getD k (⟨#[]⟩, 0)).2) := by
  induction xs generalizing k with
  | nil => simp at h
  | cons x r ih =>
    rw [cellsA, List.flatMap_cons, ← cellsA]
    cases k with
    | zero => exact ⟨rfl, rfl⟩
    | succ k =>
      have := ih k (by simp at h; omega)
      constructor
      · rw [show (k + 1) * 2 = 2 + k * 2 by omega, List.getElem?_append_right (by simp [encA])]
        simpa [encA] using this.1
      · rw [show (k + 1) * 2 + 1 = 2 + (k * 2 + 1) by omega, List.getElem?_append_right (by simp [encA])]
        simpa [encA] using this.2
theorem cellsA_one (xs : List Amt) : ∀ u ∈ cellsA xs, u.oneCell' = true := by
  intro u hu
  obtain ⟨x, _, hx⟩ := List.mem_flatMap.1 hu
  exact encA_one x u hx
theorem cellsA_app (xs ys : List Amt) : cellsA (xs ++ ys) = cellsA xs ++ cellsA ys := by simp [cellsA]
def OwnA (B : Nat) (w : World) (v : Value) (xs : List Amt) : Prop := w.ownsRow B 36 2 v xs.length (cellsA xs)
theorem OwnA.amts {B : Nat} {w : World} {v : Value} {xs : List Amt} (H : OwnA B w v xs) : Amts w v xs := by
  obtain ⟨_, ⟨hv, hn⟩ | ⟨g, cap, cur, hv, hb, hg, hn, hm, hs, ht⟩⟩ := H
  · exact ⟨none, 0, by rw [hv, hn], by omega, by decide, fun _ => rfl, fun k hk => by omega⟩
  · have hcell : ∀ j u, (cellsA xs)[j]? = some u → w.cell? ⟨g, 0 + j, none⟩ = some u := by
      intro j u hj
      rw [← ht, List.getElem?_take] at hj
      split at hj
      · simp [World.cell?, hg]
        simpa using hj
      · cases hj
    refine ⟨_, cap, hv, hn, hm, (fun h => by cases h), fun k hk => ⟨g, 0, rfl, hcell _ _ (cellsA_at xs k hk).1, ?_⟩⟩
    rw [Nat.add_assoc]
    exact hcell _ _ (cellsA_at xs k hk).2
/-- What Of tells. -/
def findA (name : ByteArray) : List Amt → Int × Bool
  | [] => (0, false)
  | x :: r => if x.1.data.toList = name.data.toList then (x.2, true) else findA name r
theorem findA_app (name : ByteArray) (xs : List Amt) (x : Amt) (r : List Amt) (h : ∀ y ∈ xs, ¬ y.1.data.toList = name.data.toList) : findA name (xs ++ x :: r) = if x.1.data.toList = name.data.toList then (x.2, true) else findA name r := by
  induction xs with
  | nil => rfl
  | cons y xs ih => rw [List.cons_append, findA, if_neg (h y (by simp)), ih (fun z hz => h z (by simp [hz]))]
theorem findA_none (name : ByteArray) (xs : List Amt) (h : ∀ y ∈ xs, ¬ y.1.data.toList = name.data.toList) : findA name xs = (0, false) := by
  induction xs with
  | nil => rfl
  | cons y xs ih => rw [findA, if_neg (h y (by simp)), ih (fun z hz => h z (by simp [hz]))]
theorem splitA (xs : List Amt) (k : Nat) (h : k < xs.length) : xs = xs.take k ++ xs.getD k (⟨#[]⟩, 0) :: xs.drop (k + 1) := by
  rw [List.getD_eq_getElem?_getD, List.getElem?_eq_getElem h]
  simp
theorem takeA (xs : List Amt) (k : Nat) (h : k < xs.length) : xs.take (k + 1) = xs.take k ++ [xs.getD k (⟨#[]⟩, 0)] := by
  rw [List.take_add_one, List.getElem?_eq_getElem h]
  simp [h]
set_option maxHeartbeats 4000000 in
set_option maxRecDepth 100000 in
theorem of_any (v : Value) (xs : List Amt) (name : ByteArray) (w : World) (hv : Amts w v xs) :
    Calls Tryz.prog 33 #[v, .string name] w fun e w' => e = .returned (.tuple #[.int .i64 (findA name xs).1, .bool (findA name xs).2]) ∧ Below w.heap.size w w' := by
  have V := Lib.hid hv
  obtain ⟨a, cap, rfl, hlc, hcm⟩ := hv.len
  unfold maxLen at hcm
  clear hv
  go_enter Tryz.func33, Tryz.ntmps33
  go_wp2_with fail
  go_loopg [10] xs.length (fun g si wr => ∃ (k : Nat), k ≤ xs.length ∧ g = xs.length - k ∧ si = .int .i64 k ∧ (∀ y ∈ xs.take k, ¬ y.1.data.toList = name.data.toList) ∧ Below w.heap.size w wr)
  case atStart => exact ⟨0, Nat.zero_le _, rfl, rfl, (fun y hy => by simp at hy), Below.refl _ _⟩
  case round =>
    obtain ⟨k, hk, hg, rfl, hn, hb⟩ := hrel
    have R : Aside (gk = xs.length - k ∧ (∀ y ∈ xs.take k, ¬ y.1.data.toList = name.data.toList) ∧ Below w.heap.size w wr) := ⟨hg, hn, hb⟩
    clear hg hn hb
    by_cases hlt : k < xs.length
    · obtain ⟨b, off, rfl, c0, c1⟩ := (V.out.below R.out.2.2).at k hlt
      obtain ⟨x, hx⟩ : ∃ x, x = xs.getD k (⟨#[]⟩, 0) := ⟨_, rfl⟩
      rw [← hx] at c0 c1
      have C : Aside (x = xs.getD k (⟨#[]⟩, 0)) := hx
      obtain ⟨xn, xv⟩ := x
      simp only at c0 c1
      clear hx
      have hlt' : (k : Int) < (xs.length : Int) := by omega
      by_cases he : xn.data.toList = name.data.toList
      · have ge : (xn.toList == name.toList) = true := by rw [ByteArray.toList_eq, ByteArray.toList_eq, beq_iff_eq]; exact he
        have hA : Hid (findA name xs = (xv, true)) := Lib.hid (by
          rw [splitA xs k hlt, findA_app name _ _ _ R.out.2.1, ← C.out, if_pos he])
        go_wp2_with fail
        go_ret2
        exact ⟨by rw [hA.out]; rfl, R.out.2.2.trans (((Below.refl _ wr).alloc (Nat.le_refl _) _).mono R.out.2.2.size)⟩
      · have ge : (xn.toList == name.toList) = false := by rw [ByteArray.toList_eq, ByteArray.toList_eq, beq_eq_false_iff_ne]; exact he
        go_wp2_with fail
        go_roundg (xs.length - (k + 1))
        case measure => have := R.out.1; omega
        case rel =>
          refine ⟨k + 1, by omega, rfl, by go_num, ?_, R.out.2.2.trans (((Below.refl _ wr).alloc (Nat.le_refl _) _).mono R.out.2.2.size)⟩
          intro y hy
          rw [takeA xs k hlt, ← C.out, List.mem_append, List.mem_singleton] at hy
          rcases hy with hy | hy
          · exact R.out.2.1 y hy
          · rw [hy]; exact he
    · have hA : Hid (findA name xs = (0, false)) := Lib.hid (findA_none name xs (by have := R.out.2.1; rwa [List.take_of_length_le (by omega)] at this))
      go_wp2_with fail
      go_ret2
      exact ⟨by rw [hA.out]; rfl, R.out.2.2⟩
set_option maxHeartbeats 4000000 in
set_option maxRecDepth 100000 in
theorem refOf_any (v : Value) (xs : List Amt) (name : ByteArray) (w : World) (hv : Amts w v xs) :
    Calls Tryz.prog 35 #[v, .string name] w fun e w' => e = .returned (.tuple #[.int .i64 (findA name xs).1, .bool (findA name xs).2]) ∧ Below w.heap.size w w' := by
  have V := Lib.hid hv
  obtain ⟨a, cap, rfl, hlc, hcm⟩ := hv.len
  unfold maxLen at hcm
  clear hv
  go_enter Tryz.func35, Tryz.ntmps35
  go_wp2_with fail
  go_loopg [6] xs.length (fun g si wr => ∃ (k : Nat), k ≤ xs.length ∧ g = xs.length - k ∧ si = .int .i64 k ∧ (∀ y ∈ xs.take k, ¬ y.1.data.toList = name.data.toList) ∧ wr = w)
  case atStart => exact ⟨0, Nat.zero_le _, rfl, rfl, (fun y hy => by simp at hy), rfl⟩
  case round =>
    obtain ⟨k, hk, hg, rfl, hn, rfl⟩ := hrel
    have R : Aside (gk = xs.length - k ∧ (∀ y ∈ xs.take k, ¬ y.1.data.toList = name.data.toList)) := ⟨hg, hn⟩
    clear hg hn
    by_cases hlt : k < xs.length
    · obtain ⟨b, off, rfl, c0, c1⟩ := V.out.at k hlt
      obtain ⟨x, hx⟩ : ∃ x, x = xs.getD k (⟨#[]⟩, 0) := ⟨_, rfl⟩
      rw [← hx] at c0 c1
      have C : Aside (x = xs.getD k (⟨#[]⟩, 0)) := hx
      obtain ⟨xn, xv⟩ := x
      simp only at c0 c1
      clear hx
      have hlt' : (k : Int) < (xs.length : Int) := by omega
      by_cases he : xn.data.toList = name.data.toList
      · have ge : (xn.toList == name.toList) = true := by rw [ByteArray.toList_eq, ByteArray.toList_eq, beq_iff_eq]; exact he
        have hA : Hid (findA name xs = (xv, true)) := Lib.hid (by
          rw [splitA xs k hlt, findA_app name _ _ _ R.out.2, ← C.out, if_pos he])
        go_wp2_with fail
        go_ret2
        exact ⟨by rw [hA.out]; rfl, Below.refl _ _⟩
      · have ge : (xn.toList == name.toList) = false := by rw [ByteArray.toList_eq, ByteArray.toList_eq, beq_eq_false_iff_ne]; exact he
        go_wp2_with fail
        go_roundg (xs.length - (k + 1))
        case measure => have := R.out.1; omega
        case rel =>
          refine ⟨k + 1, by omega, rfl, by go_num, ?_, rfl⟩
          intro y hy
          rw [takeA xs k hlt, ← C.out, List.mem_append, List.mem_singleton] at hy
          rcases hy with hy | hy
          · exact R.out.2 y hy
          · rw [hy]; exact he
    · have hA : Hid (findA name xs = (0, false)) := Lib.hid (findA_none name xs (by have := R.out.2; rwa [List.take_of_length_le (by omega)] at this))
      go_wp2_with fail
      go_ret2
      exact ⟨by rw [hA.out]; rfl, Below.refl _ _⟩
end Go.Proofs.YtmkdmfjdhajiaaaGreatDoor
