/-
  write, writeValues: of every valid term.
-/
import Derived.Test.YtjlpcklcnabldaaDoorLSelT
import Derived.Lib.QuietBelow
import Derived.BigQuiet
namespace Go.Proofs.YtjlpcklcnabldaaDoor.L
open Go.RowKit Go.Sort
theorem strs_cells {w : World} {b off n cap : Nat} {ts : List ByteArray} (H : Strs w (.slice (some ⟨b, off, none⟩) n cap) ts) : ∀ (j : Nat) x, ts[j]? = some x → w.cell? ⟨b, off + j, none⟩ = some (.string x) := by
  intro j x hj
  obtain ⟨hj', hx⟩ := List.getElem?_eq_some_iff.1 hj
  obtain ⟨b', off', e', hc⟩ := H.at j hj'
  cases e'
  rw [hc, List.getD_eq_getElem?_getD, hj]
  rfl
theorem joins_any (v : Value) (ts : List ByteArray) (c : UInt8) (w : World) (hv : Strs w v ts) (hl : (jn c (ts.map (·.data.toList))).length < 140737488355328) :
    Calls Tryd.prog 19 #[v, .string ⟨#[c]⟩] w fun e w' => e = .returned (.string (bys (jn c (ts.map (·.data.toList))))) ∧ Below w.heap.size w w' := by
  have hs := hv
  obtain ⟨a, cap, rfl, hlc, hcm⟩ := hv.len
  unfold maxLen at hcm
  have ej : Lib.join (ts.map (·.data.toList)) [c] = jn c (ts.map (·.data.toList)) := join_jn c _
  cases ts with
  | nil => exact (Tryd.strings_Join_none a cap ⟨#[c]⟩ w).mono fun _ _ ⟨he, hw⟩ => ⟨he, hw ▸ Below.refl _ _⟩
  | cons t r =>
    obtain ⟨b, off, rfl, hc0⟩ := hs.at 0 (by simp)
    refine (Tryd.strings_Join b off cap (t :: r) ⟨#[c]⟩ w (strs_cells hs) (block_lt_of_cell hc0) (by have := jn_len c ((t :: r).map (·.data.toList)); rw [List.length_map] at this; omega) hlc ?_).mono ?_
    · show (Lib.join ((t :: r).map (·.data.toList)) [c]).length ≤ _
      rw [ej]; exact Nat.le_of_lt hl
    · rintro e w' ⟨rfl, hb⟩
      refine ⟨?_, hb⟩
      show Ending.returned (.string ⟨(Lib.join ((t :: r).map (·.data.toList)) [c]).toArray⟩) = _
      rw [ej]; rfl
theorem jn_small (c : UInt8) (ts : List ByteArray) (m : Nat) (h : ∀ t ∈ ts, t.size ≤ m) : (jn c (ts.map (·.data.toList))).length ≤ ts.length * (m + 1) := by
  induction ts with
  | nil => simp [jn]
  | cons t r ih =>
    have h1 := h t (by simp)
    have h2 := ih fun u hu => h u (by simp [hu])
    have h3 : t.data.toList.length = t.size := by simp
    cases r with
    | nil => simp only [List.map_cons, List.map_nil, jn, List.length_cons, List.length_nil]; omega
    | cons u r =>
      rw [List.map_cons, jn_cons _ _ _ (by simp), List.length_append, List.length_cons, List.length_cons, Nat.add_mul]
      omega
end Go.Proofs.YtjlpcklcnabldaaDoor.L
