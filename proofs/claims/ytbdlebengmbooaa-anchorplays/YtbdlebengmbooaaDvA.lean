/-
  THE DEVICE in memory; New.
-/
import Derived.Test.YtbdlebengmbooaaDevM
import Derived.Deep.MidRow
import Derived.Maps.OwnSet
import Derived.Maps.OwnOps
import Derived.Maps.Own
import Derived.Maps.Views
import Derived.Lib.Hide
namespace Go.Proofs.Ytbdlebengmbooaa
open Go.RowKit Go.Maps
def cellsW (l : List Wt) : List Value := l.flatMap fun x => .int .i64 (x.1 : Int) :: cells8 x.2
/-- The map of the latest writes. -/
def Lat (D : DataW Unit) (l : List Wt) : Prop :=
  IsMap D ∧ ∀ b : Nat, Maps.has D (.int .i64 (b : Int)) = (lastIx b l 0).isSome ∧ ∀ i : Nat, lastIx b l 0 = some i → D.atKey (.int .i64 (b : Int)) (.lit (.int .i64 0)) = .lit (.int .i64 (i : Int))
theorem lat_none : Lat (.map []) [] := ⟨⟨[], rfl⟩, fun b => ⟨by simp [Maps.has_eq, lastIx], fun i h => by simp [lastIx] at h⟩⟩
theorem isKeyI (i : Int) : WideAt.IsKeyLit (.int .i64 i) := by trivial
theorem Lat.put {D : DataW Unit} {l : List Wt} (h : Lat D l) (x : Wt) : Lat (D.put (.int .i64 (x.1 : Int)) (.lit (.int .i64 (l.length : Int)))) (l ++ [x]) := by
  refine ⟨h.1.put _ _, fun b => ?_⟩
  by_cases e : x.1 = b
  · subst e
    rw [has_put_same h.1 (isKeyI _), lastIx_snoc, if_pos rfl]
    refine ⟨rfl, fun i hi => ?_⟩
    simp only [Option.some.injEq, Nat.zero_add] at hi
    subst hi
    exact atKey_put_same h.1 (isKeyI _) _ _
  · have ne : (Lit.int .i64 (b : Int)) ≠ .int .i64 (x.1 : Int) := fun h => e (by injection h; omega)
    rw [has_put_other ne, lastIx_snoc, if_neg e]
    refine ⟨(h.2 b).1, fun i hi => ?_⟩
    rw [atKey_put_other ne]
    exact (h.2 b).2 i hi
abbrev keyI : Keyed Try.prog 3 := int_keyed Try.underlying3
/-- The cells of the device's own block. -/
def devCells (mb mp : Nat) (cv : Value) (s : DS) : Array Value :=
  #[.slice (some ⟨mb, 0, none⟩) s.n s.n, cv, .map (some mp), .bool s.armed, .int .i64 s.left, .bool s.down, .int .i64 s.cr, .int .i64 s.cw, .int .i64 s.cf]
/-- The device d is in the state s. -/
structure Dv (B : Nat) (w : World) (d mb mp : Nat) (cv : Value) (s : DS) : Prop where
  self : w.heap[d]? = some (.cells (devCells mb mp cv s) 62 (0, 0))
  med : w.heap[mb]? = some (.cells (cells8 s.med).toArray 80 (0, 0))
  cache : w.ownsRow B 86 513 cv s.cache.length (cellsW s.cache)
  latest : ∃ M, w.ownsMap Try.prog 3 (plainElem Try.prog 3) mp s.ws M ∧ Lat M s.cache
  fit : Fit s
  b1 : B ≤ d
  b2 : B ≤ mb
  b3 : B ≤ mp
/-- The blocks of a device. -/
def Foot (d mb mp : Nat) (cv : Value) (k : Nat) : Prop := k = d ∨ k = mb ∨ k = mp ∨ cv.ownBlock = some k
theorem info_content : (Try.prog.info? 80).map (fun i => (i.zero, i.size, i.bytes)) = some (some (.agg (Array.replicate 512 (.int .u8 0))), 512, 512) := by kernel_rfl
theorem make_content (w : World) (n : Nat) (h : n ≤ 4096) :
    (Instr.makeSlice 58 (.int .i64 n) (.int .i64 n)).run Try.prog w = .ok (.slice (some ⟨w.heap.size, 0, none⟩) n n) (w.alloc (.cells (cells8 (List.replicate (512 * n) 0)).toArray 80)) := by
  obtain ⟨i0, hi, hz0, hz1, hz2⟩ := info_parts info_content
  have h := run_make (P := Try.prog) w 58 80 i0 (.agg (Array.replicate 512 (.int .u8 0))) Try.underlying58 hi hz0 .i64 .i64 (n : Int) (n : Int) (by omega) (by omega) (by rw [hz2]; omega) (by omega)
  have e : (madeCells (Value.agg (Array.replicate 512 (Value.int IntKind.u8 0))).cells ((n : Int).toNat * i0.size)) = (cells8 (List.replicate (512 * n) 0)).toArray := by
    rw [hz1, Int.toNat_natCast]
    apply Array.ext
    · simp [size_madeCells, cells8, Nat.mul_comm]
    · intro k h1 h2
      have hk : k % 512 < 512 := Nat.mod_lt _ (by decide)
      simp [madeCells, Value.cells, cells8, c8, getElem!_pos, hk]
  rw [h, e, Int.toNat_natCast]
theorem make_map (w : World) : (Instr.makeMap 59 none).run Try.prog w = .ok (.map (some w.heap.size)) (w.alloc (.map #[] 0)) := by
  simp [Instr.makeMap, Result.andThen]
set_option maxHeartbeats 1000000 in
theorem new_bad (i : Int) (w : World) (h : i < 64 ∨ 4096 < i) : Calls Try.prog 5 #[.int .i64 i] w fun e w' => e = .returned (.tuple #[.pointer none, .int .i64 1]) ∧ w' = w := by
  go_enter Try.func5, Try.ntmps5
  by_cases h1 : i < 64
  · have g1 : decide (i < 64) = true := decide_eq_true h1
    go_wp2
    go_ret2
    exact ⟨rfl, rfl⟩
  · have g1 : decide (i < 64) = false := decide_eq_false h1
    have g2 : decide (i > 4096) = true := decide_eq_true (by omega)
    go_wp2
    go_ret2
    exact ⟨rfl, rfl⟩
set_option maxHeartbeats 1000000 in
theorem new_ok (n : Nat) (w : World) (h1 : 64 ≤ n) (h2 : n ≤ 4096) : Calls Try.prog 5 #[.int .i64 n] w fun e w' => e = .returned (.tuple #[.pointer (some ⟨w.heap.size + 2, 0, none⟩), .int .i64 0]) ∧ Below w.heap.size w w' ∧ Dv w.heap.size w' (w.heap.size + 2) w.heap.size (w.heap.size + 1) (.slice none 0 0) (newD n (List.replicate (512 * n) 0)) := by
  have g1 : decide ((n : Int) < 64) = false := decide_eq_false (by omega)
  have g2 : decide ((n : Int) > 4096) = false := decide_eq_false (by omega)
  have hm := make_content w n h2
  have hm2 := make_map
  go_enter Try.func5, Try.ntmps5
  go_wp2
  go_ret2
  refine ⟨rfl, (((Below.refl _ _).alloc (Nat.le_refl _) _).alloc (by simp) _).alloc (by simp; omega) _, ?_⟩
  have s1 : (w.alloc (Obj.cells (cells8 (List.replicate (512 * n) 0)).toArray 80)).heap.size = w.heap.size + 1 := by simp
  have s2 : ((w.alloc (Obj.cells (cells8 (List.replicate (512 * n) 0)).toArray 80)).alloc (Obj.map #[] 0)).heap.size = w.heap.size + 2 := by simp
  refine ⟨?_, ?_, World.ownsRow_nil _ _ _ _, ⟨_, (World.ownsMap_made _ _ _ _).alloc _ |> (fun h => by rw [s1] at h; exact h), lat_none⟩, ⟨h1, h2, by simp [newD], by intro x hx; simp [newD] at hx, Nat.le_refl _⟩, by omega, Nat.le_refl _, by omega⟩
  · rw [← s2]
    exact heap_alloc_new _ _
  · rw [Below.heap_alloc _ _ _ (by rw [s2]; omega), Below.heap_alloc _ _ _ (by rw [s1]; omega)]
    exact heap_alloc_new _ _
end Go.Proofs.Ytbdlebengmbooaa
