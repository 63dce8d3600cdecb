/-
  Print below 0; the lists of the law.
-/
import Derived.Test.YtjegjpdeclgegaaDoorParseD
import Derived.Test.YtjegjpdeclgegaaDoorGlob
namespace Go.Proofs.YtjegjpdeclgegaaDoor
open Go.RowKit Go.Shelf Go.Sort Go.Lib
theorem dec_le : ∀ (k u : Nat), u < 10 ^ (k + 1) → (decDigits u).length ≤ k + 1
  | 0, u, h => by rw [decDigits, dif_pos (by simpa using h)]; simp
  | k + 1, u, h => by
    rw [decDigits]
    split
    · simp
    · have := dec_le k (u / 10) (by rw [Nat.pow_succ] at h; omega)
      rw [List.length_append]
      simp only [List.length_cons, List.length_nil]
      omega
set_option maxHeartbeats 4000000 in
set_option maxRecDepth 100000 in
theorem print_neg (v : Int) (hv : v < 0) (w : World) : Calls Tryd.prog 6 #[.int .i64 v] w fun e w' => e = .returned (.string ⟨#[]⟩) ∧ Below w.heap.size w w' := by
  go_enter Tryd.func6, Tryd.ntmps6
  go_wp2_with fail
  go_ret
  exact ⟨rfl, ⟨rfl, rfl, rfl, Nat.le_refl _, fun _ _ => rfl⟩⟩
/-- The factors of whole numbers. -/
def facN (k : Nat) : Nat := sufN (k + 1) / 1000
def facS : Array Value := #[.string ⟨#[]⟩, .string ⟨#[107]⟩, .string ⟨#[77]⟩, .string ⟨#[71]⟩, .string ⟨#[84]⟩, .string ⟨#[80]⟩, .string ⟨#[75, 105]⟩, .string ⟨#[77, 105]⟩, .string ⟨#[71, 105]⟩, .string ⟨#[84, 105]⟩, .string ⟨#[80, 105]⟩]
def facI : Array Value := #[.int .i64 1, .int .i64 1000, .int .i64 1000000, .int .i64 1000000000, .int .i64 1000000000000, .int .i64 1000000000000000, .int .i64 1024, .int .i64 1048576, .int .i64 1073741824, .int .i64 1099511627776, .int .i64 1125899906842624]
theorem facS_at : ∀ k : Nat, k < 11 → facS[k]? = some (.string (sufT (k + 1)))
  | 0, _ => rfl
  | 1, _ => rfl
  | 2, _ => rfl
  | 3, _ => rfl
  | 4, _ => rfl
  | 5, _ => rfl
  | 6, _ => rfl
  | 7, _ => rfl
  | 8, _ => rfl
  | 9, _ => rfl
  | 10, _ => rfl
theorem facI_at : ∀ k : Nat, k < 11 → facI[k]? = some (.int .i64 (facN k))
  | 0, _ => rfl
  | 1, _ => rfl
  | 2, _ => rfl
  | 3, _ => rfl
  | 4, _ => rfl
  | 5, _ => rfl
  | 6, _ => rfl
  | 7, _ => rfl
  | 8, _ => rfl
  | 9, _ => rfl
  | 10, _ => rfl
theorem facN_pos : ∀ k : Nat, k < 11 → 0 < facN k ∧ facN k < 9223372036854775808 ∧ facN k * 1000 = sufN (k + 1) := by decide
def Facs (w : World) (b c : Nat) : Prop := ∀ k : Nat, k < 11 → w.cell? ⟨b, k, none⟩ = some (.string (sufT (k + 1))) ∧ w.cell? ⟨c, k, none⟩ = some (.int .i64 (facN k))
theorem Facs.below {w w' : World} {b c : Nat} (h : Facs w b c) (hb : Below w.heap.size w w') : Facs w' b c := fun k hk => by
  obtain ⟨h1, h2⟩ := h k hk
  exact ⟨by rw [hb.cell (block_lt_of_cell h1)]; exact h1, by rw [hb.cell (block_lt_of_cell h2)]; exact h2⟩
theorem facs_new (w : World) : Facs ((w.alloc (.cells facS 9)).alloc (.cells facI 2)) w.heap.size (w.heap.size + 1) := fun k hk => by
  have e : (w.alloc (.cells facS 9)).heap.size = w.heap.size + 1 := by show (w.heap.push _).size = _; rw [Array.size_push]
  refine ⟨?_, ?_⟩
  · rw [World.cell?_alloc_past _ _ _ (by rw [e]; omega), World.cell?_alloc_at _ _ _ _ rfl]
    exact facS_at k hk
  · rw [World.cell?_alloc_at _ _ _ _ e.symm]
    exact facI_at k hk
end Go.Proofs.YtjegjpdeclgegaaDoor
