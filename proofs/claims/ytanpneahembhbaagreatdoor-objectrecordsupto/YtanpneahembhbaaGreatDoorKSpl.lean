/-
  Split: of every text.
-/
import Derived.Test.YtanpneahembhbaaGreatDoorKMake
namespace Go.Proofs.YtanpneahembhbaaGreatDoor.K
open Go.RowKit
/-- The tuple whose key a text is; nothing, if it is none's. -/
def splitO (k : ByteArray) : Option (List ByteArray) := if Lib.hasSuffix k.data.toList [0, 1] = true ∧ k.size ≤ 120 ∧ makeR (partsOf k.data.toList) = (k, 0) then some (partsOf k.data.toList) else none
def splitE (k : ByteArray) : Int := if (splitO k).isSome then 0 else 2
def splitT (k : ByteArray) : List ByteArray := (splitO k).getD []
theorem make_ok {ts : List ByteArray} {k : ByteArray} (h : makeR ts = (k, 0)) : ts ≠ [] ∧ ts.length ≤ 8 ∧ (keyL ts).length ≤ 120 ∧ k = bytesOf (keyL ts) := by
  unfold makeR at h
  split at h
  · cases h
  · split at h
    · cases h
    · rename_i h1 h2
      refine ⟨fun e => h1 (.inl (by rw [e]; rfl)), by omega, by omega, ?_⟩
      have := congrArg Prod.fst h
      exact this.symm
theorem split_make {ts : List ByteArray} {k : ByteArray} (h : makeR ts = (k, 0)) : splitO k = some ts := by
  obtain ⟨h1, h2, h3, h4⟩ := make_ok h
  have hd : k.data.toList = keyL ts := by rw [h4, data_bytesOf]
  have hp : partsOf k.data.toList = ts := by rw [hd, parts_key ts h1]
  have hsz : k.size ≤ 120 := by
    have : k.data.toList.length = k.size := by simp
    rw [hd] at this
    omega
  unfold splitO
  rw [hp, if_pos ⟨by rw [hd, body_key ts h1]; exact (trim_end _).1, hsz, h⟩]
theorem make_split {ts : List ByteArray} {k : ByteArray} (h : splitO k = some ts) : makeR ts = (k, 0) := by
  unfold splitO at h
  split at h
  · rename_i h1
    cases h
    exact h1.2.2
  · cases h
theorem OwnS.set {B : Nat} {w : World} {g n cap : Nat} {l : List ByteArray} (H : OwnS B w (.slice (some ⟨g, 0, none⟩) n cap) l) (k : Nat) (hk : k < l.length) (x : ByteArray) :
    OwnS B (w.setCell ⟨g, k, none⟩ (.string x)) (.slice (some ⟨g, 0, none⟩) n cap) (l.set k x) ∧ B ≤ g ∧ w.cell? ⟨g, k, none⟩ = some (.string (l.getD k ⟨#[]⟩)) ∧ w.frozen? ⟨g, k, none⟩ = false ∧ n = l.length := by
  obtain ⟨h1, ⟨hv, hn⟩ | ⟨g', cap', cur, hv, hb, hg, hn, hm, hs, ht⟩⟩ := H
  · cases hv
  · simp only [Value.slice.injEq, Option.some.injEq, Addr.mk.injEq, and_true] at hv
    obtain ⟨rfl, rfl, rfl⟩ := hv
    have hcur : k < cur.size := by omega
    have hc : cur.toList[k]? = (cellsS l)[k]? := by
      rw [← ht, List.getElem?_take_of_lt (by omega)]
    refine ⟨⟨by simp [cellsS], .inr ⟨g, cap, cur.set! k (.string x), by simp, hb, ?_, by simpa using hn, hm, by simpa using hs, ?_⟩⟩, hb, ?_, frozen_of_row _ _ _ _ _ hg, rfl⟩
    · simp [World.setCell, Array.getElem?_modify, hg]
    · rw [Array.set!_eq_setIfInBounds, Array.toList_setIfInBounds, List.take_set, List.length_set, ht]
      simp [cellsS, List.map_set]
    · rw [cell_of_row _ _ _ _ _ _ hg, ← Array.getElem?_toList, hc, cellsS_at l k hk]
theorem piece_le (k : Nat) : ∀ (s : List UInt8), ∀ p ∈ Lib.splitK [0, 1] 0 k s, p.length ≤ s.length := by
  induction k with
  | zero => intro s p hp; simp [Lib.splitK] at hp; rw [hp]; exact Nat.le_refl _
  | succ k ih =>
    intro s p hp
    rw [Lib.splitK] at hp
    split at hp
    · simp at hp; rw [hp]; exact Nat.le_refl _
    · rcases List.mem_cons.1 hp with rfl | hp
      · rw [List.length_take]; omega
      · have := ih _ p hp
        rw [List.length_drop] at this
        omega
theorem all_le : ∀ (n : Nat) (s : List UInt8), s.length ≤ n → (Lib.replaceAll s [0, 255] [0]).length ≤ s.length
  | n, s, hn => by
    rcases Lib.index_spec s [0, 255] with h | ⟨i, hi, _⟩
    · rw [all_miss _ _ _ h.1]; exact Nat.le_refl _
    · have hr := Lib.index_room s [0, 255] (by omega)
      rw [hi] at hr
      have hr' : i + 2 ≤ s.length := by simp at hr; omega
      rw [all_hit _ _ _ i (by simp) (by simp) hi]
      cases n with
      | zero => omega
      | succ n =>
        have := all_le n (s.drop (i + [(0 : UInt8), 255].length)) (by rw [List.length_drop]; simp; omega)
        rw [List.length_append, List.length_append, List.length_take]
        rw [List.length_drop] at this
        simp only [List.length_cons, List.length_nil] at this ⊢
        omega
def dec (t : ByteArray) : ByteArray := bytesOf (Lib.replaceAll t.data.toList [0, 255] [0])
theorem dec_size (t : ByteArray) : (dec t).size ≤ t.size := by
  have h := all_le _ t.data.toList (Nat.le_refl _)
  have e : t.data.toList.length = t.size := by simp
  have e2 : (dec t).size = (Lib.replaceAll t.data.toList [0, 255] [0]).length := by simp [dec, bytesOf, ByteArray.size]
  omega
end Go.Proofs.YtanpneahembhbaaGreatDoor.K
