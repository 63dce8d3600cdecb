/-
  THE WALK of LabelReadsBack.
-/
import Derived.Test.YtjlpcklcnabldaaDoorLSameT
import Derived.Test.YtjlpcklcnabldaaDoorLFixed
namespace Go.Proofs.YtjlpcklcnabldaaDoor.L
open Go.RowKit
theorem ps3_pr {s : List UInt8} {xs : List T3} (h : ps3 s = some xs) : ok3 xs = true ∧ pr3 xs = s := by
  unfold ps3 at h
  split at h
  · rename_i h0
    injection h with h
    subst h h0
    exact ⟨rfl, rfl⟩
  · cases h1 : all3 (spl9 44 s) with
    | none => rw [h1] at h; cases h
    | some ys =>
      rw [h1] at h
      simp only at h
      split at h
      · rename_i h2
        injection h with h
        subst h
        exact ⟨h2, pr3_of h1⟩
      · cases h
theorem pr_ps3 {xs : List T3} (h : ok3 xs = true) : ps3 (pr3 xs) = some xs := by
  obtain ⟨h8, hok⟩ := ok3_all h
  by_cases h0 : xs = []
  · subst h0; rfl
  · unfold ps3
    rw [if_neg (pr3_ne h0 hok), pr3_spl h0 h8 hok, wr_all3 hok]
    simp only
    rw [if_pos h]
theorem trms_nil (w : World) : Trms w (.slice none 0 0) [] := ⟨by simp, none, 0, rfl, by simp, by decide, fun _ => rfl, fun h => absurd rfl h⟩
/-- What Parse answers, as terms that lie there. -/
theorem parsed_trms {B : Nat} {w : World} {v : Value} {ys : List Trm} {xs : List T3} (h : v = .slice none 0 0 ∧ ys = [] ∨ OwnTs B w v ys) (h3 : ys.map t3 = xs) (hok : ok3 xs = true) : Trms w v ys ∧ ys.length ≤ 8 ∧ ∀ y ∈ ys, y.ts.length ≤ 8 := by
  obtain ⟨h8, hall⟩ := ok3_all hok
  have hl : ys.length ≤ 8 := by rw [← h3, List.length_map] at h8; exact h8
  refine ⟨?_, hl, ?_⟩
  · rcases h with ⟨rfl, rfl⟩ | h
    · exact trms_nil w
    · exact h.trms (by omega)
  · intro y hy
    have hx := hall (t3 y) (by rw [← h3]; exact List.mem_map_of_mem hy)
    have e : (t3 y).vs.length = y.ts.length := by show (y.ts.map _).length = _; rw [List.length_map]
    rcases hx.2.2.2 with ⟨_, _, h⟩ | ⟨_, h⟩
    · omega
    · rw [h] at e; simp at e; omega
end Go.Proofs.YtjlpcklcnabldaaDoor.L
