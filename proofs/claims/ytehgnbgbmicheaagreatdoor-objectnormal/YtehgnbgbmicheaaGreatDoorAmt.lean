/-
  Amounts in a row: the order of names (the closure of Normal), the sort of the laws three amounts.
-/
import Derived.Test.YtehgnbgbmicheaaGreatDoorShelf
import Derived.WalkKit
import Derived.Lib.Walk
import Derived.WalkSpells
import Derived.WalkLawsBesides
import Derived.Handy
import Derived.Lib.Hide
import Derived.RegionTactic
import Derived.BigQuiet
import Derived.Deep.QuietTactic
import Derived.Lib.QuietBelow
import Derived.Deep.LoopGhost
import Derived.Lib.SliceRun
namespace Go.Proofs.YtehgnbgbmicheaaGreatDoor
open Go.RowKit Go.Sort Go.Lib
/-- An amount: its name, its value. -/
abbrev Amt := ByteArray × Int
def encA (x : Amt) : List Value := [.string x.1, .int .i64 x.2]
def cfA (x y : Amt) : Int := Lib.compareBytes x.1.data.toList y.1.data.toList
set_option maxHeartbeats 2000000 in
theorem cmp_any (x y : Amt) (W : World) : Calls Tryz.prog 65 #[.agg (encA x).toArray, .agg (encA y).toArray] W fun e w' => e = .returned (.int .i64 (cfA x y)) ∧ ∃ q os', w' = grow (W.drewN q) os' := by
  obtain ⟨xn, xv⟩ := x
  obtain ⟨yn, yv⟩ := y
  unfold encA
  go_enter Tryz.func65, Tryz.ntmps65
  go_wp2_with fail
  refine (Tryz.strings_Compare xn yn _).mono ?_
  rintro e w1 ⟨rfl, rfl⟩
  go_wp2_with fail
  go_ret
  exact ⟨rfl, 0, #[.cells #[.string xn, .int .i64 xv] 56, .cells #[.string yn, .int .i64 yv] 56], by rw [World.drewN_zero, alloc_eq_grow, alloc_eq_grow, grow_grow]; rfl⟩

/-- The three amounts of known, joined. -/
def k3 : Array Amt := #[(⟨#[99, 112, 117]⟩, 1), (⟨#[109, 101, 109, 111, 114, 121]⟩, 2), (⟨#[109, 101, 109, 111, 114, 121]⟩, 3)]
theorem k3_sorted : Sort.insertionSort (ltOf cfA) k3 0 k3.size = k3 := by
  have e01 : ltOf cfA (k3[1]!) (k3[0]!) = false := by decide
  have e12 : ltOf cfA (k3[2]!) (k3[1]!) = false := by decide
  have hs : k3.size = 3 := rfl
  unfold Sort.insertionSort
  rw [hs, Sort.insOuter, Sort.insInner]
  simp [e01, e12, Sort.insOuter, Sort.insInner]
/-- The three rows of cells. -/
def Row3 (w : World) (g : Nat) : Prop := ∀ j u, [Value.string ⟨#[99, 112, 117]⟩, .int .i64 1, .string ⟨#[109, 101, 109, 111, 114, 121]⟩, .int .i64 2, .string ⟨#[109, 101, 109, 111, 114, 121]⟩, .int .i64 3][j]? = some u → w.cell? ⟨g, 0 + j, none⟩ = some u
theorem row_of_owns {w : World} {base e size n : Nat} {v : Value} {xs : List Value} (h : w.ownsRow base e size v n xs) (hn : 0 < n) : ∃ g cap, v = .slice (some ⟨g, 0, none⟩) n cap ∧ base ≤ g ∧ g < w.heap.size ∧ (∀ j u, xs[j]? = some u → w.cell? ⟨g, 0 + j, none⟩ = some u ∧ w.frozen? ⟨g, 0 + j, none⟩ = false) := by
  obtain ⟨hl, h | ⟨g, cap, cur, rfl, hb, hg, h1, h2, h3, h4⟩⟩ := h
  · omega
  · refine ⟨g, cap, rfl, hb, (Array.getElem?_eq_some_iff.1 hg).1, fun j u hj => ?_⟩
    have hj' : cur[j]? = some u := by
      rw [← h4] at hj
      rw [List.getElem?_take] at hj
      split at hj
      · simpa using hj
      · cases hj
    constructor
    · simp [World.cell?, hg, hj']
    · simp [World.frozen?, hg]
theorem Row3.holds {w : World} {g : Nat} (h : ∀ j u, [Value.string ⟨#[99, 112, 117]⟩, .int .i64 1, .string ⟨#[109, 101, 109, 111, 114, 121]⟩, .int .i64 2, .string ⟨#[109, 101, 109, 111, 114, 121]⟩, .int .i64 3][j]? = some u → w.cell? ⟨g, 0 + j, none⟩ = some u ∧ w.frozen? ⟨g, 0 + j, none⟩ = false) : HoldsK encA 2 w g 0 k3 := by
  intro j hj
  have hs : (flatK encA 2 k3).size = 6 := by rw [size_flatK]; rfl
  rw [hs] at hj
  refine h j _ ?_
  rw [get_flatK _ _ _ _ (by exact hj)]
  match j, hj with
  | 0, _ => rfl
  | 1, _ => rfl
  | 2, _ => rfl
  | 3, _ => rfl
  | 4, _ => rfl
  | 5, _ => rfl

theorem amt_info0 : (Tryz.prog.info? 56).map (fun i => (i.zero, i.size, i.bytes)) = some (some (.agg #[.string ⟨#[]⟩, .int .i64 0]), 2, 24) := by kernel_rfl
theorem amt_info : ∃ i0, Tryz.prog.info? 56 = some i0 ∧ i0.zero = some (.agg #[.string ⟨#[]⟩, .int .i64 0]) ∧ i0.size = 2 ∧ i0.bytes = 24 := by
  have h := amt_info0
  cases hi : Tryz.prog.info? 56 with
  | none => rw [hi] at h; cases h
  | some i0 =>
    rw [hi] at h
    simp only [Option.map_some, Option.some.injEq, Prod.mk.injEq] at h
    exact ⟨i0, rfl, h.1, h.2.1, h.2.2⟩
theorem amt_size (w : World) : (Go.sizeOf 56).run Tryz.prog w = .ok 2 w := by
  obtain ⟨i0, hi, _, hs, _⟩ := amt_info
  simp [Go.sizeOf, typeInfo, hi, hs]
theorem amt_agg (w : World) : (isAgg 56).run Tryz.prog w = .ok true w := by
  go_simp
theorem encA_len (x : Amt) : (encA x).length = 2 := rfl
theorem encA_one (x : Amt) : ∀ v ∈ encA x, v.oneCell' = true := by
  intro v hv
  simp only [encA, List.mem_cons, List.not_mem_nil, or_false] at hv
  rcases hv with rfl | rfl <;> rfl
theorem len_ok (n : Nat) (W : World) (h : n ≤ 12) : Calls Tryz.prog 89 #[.int .u64 n] W fun e w' => (∃ l : Int, e = .returned (.int .i64 l)) ∧ w' = W :=
  (Tryz.bits_Len (n : Int) W (by omega) (by omega)).mono fun _ _ ⟨he, hw⟩ => ⟨⟨_, he⟩, hw⟩
/-- The three amounts, cloned and sorted: as they stand. -/
theorem sort_k3 (g cap : Nat) (w : World) (h : HoldsK encA 2 w g 0 k3) (hg : g < w.heap.size) :
    Calls Tryz.prog 64 #[.slice (some ⟨g, 0, none⟩) 3 cap, .func (.func 65) #[] #[]] w fun e w' => e = .returned (.tuple #[]) ∧ ∃ n os, w' = grow (w.drewN n) os := by
  have hc : CmpLays Tryz.prog 65 #[] encA 2 cfA g 0 k3.size w := fun m os dk _ x y => cmp_any x y _
  refine (Tryz.slices_SortFunc_small 2 amt_agg amt_size encA encA_len encA_one cfA 65 #[] g 0 cap k3 w (enters_of Tryz.func65 (by kernel_rfl) rfl) hc h hg (by decide) len_ok).mono ?_
  rintro e w' ⟨rfl, n, os, rfl⟩
  refine ⟨rfl, n, os, ?_⟩
  rw [k3_sorted]
  unfold sortWorldK
  rw [putRowK_self encA 2 _ _ _ _ (holdsK_ahead encA 2 w n g 0 k3 h)]
  rfl
end Go.Proofs.YtehgnbgbmicheaaGreatDoor
