/-
  quant.Add of amounts that are not below 0; addAll.
-/
import Derived.Test.YtodfmnbfbndkhaaGreatDoorScM
namespace Go.Proofs.YtodfmnbfbndkhaaGreatDoor
open Go.RowKit Go.Maps
set_option maxRecDepth 100000 in
theorem add_ok (x y : Int) (hx : 0 ≤ x) (hy : 0 ≤ y) (h : x + y ≤ 9223372036854775807) (w : World) : Calls Tryz.prog 77 #[.int .i64 x, .int .i64 y] w fun e w' => e = .returned (.tuple #[.int .i64 (x + y), .int .i64 0]) ∧ w' = w := by
  have gx : decide (x < 0) = false := decide_eq_false (by omega)
  have gy : decide (y < 0) = false := decide_eq_false (by omega)
  have go : decide (x > 9223372036854775807 - y) = false := decide_eq_false (by omega)
  go_enter Tryz.func77, Tryz.ntmps77
  go_wp2
  go_ret2
  exact ⟨rfl, rfl⟩
set_option maxRecDepth 100000 in
theorem add_over (x y : Int) (hx : 0 ≤ x) (hy : 0 ≤ y) (hy' : y ≤ 9223372036854775807) (h : 9223372036854775807 < x + y) (w : World) : Calls Tryz.prog 77 #[.int .i64 x, .int .i64 y] w fun e w' => e = .returned (.tuple #[.int .i64 0, .int .i64 7]) ∧ w' = w := by
  have gx : decide (x < 0) = false := decide_eq_false (by omega)
  have gy : decide (y < 0) = false := decide_eq_false (by omega)
  have go : decide (x > 9223372036854775807 - y) = true := decide_eq_true (by omega)
  go_enter Tryz.func77, Tryz.ntmps77
  go_wp2
  go_ret2
  exact ⟨rfl, rfl⟩
theorem pre_take (h : ByteArray) (l : List Am) (k : Nat) (hk : k < l.length) : pre h (l.take (k + 1)) = pre h (l.take k) ++ [(h.data.toList ++ (l.getD k kAm.z).n.data.toList, (l.getD k kAm.z).v)] := by
  rw [take_onez l k kAm.z hk]; simp [pre]
theorem pre_split (h : ByteArray) (l : List Am) (k : Nat) : pre h l = pre h (l.take k) ++ pre h (l.drop k) := by
  unfold pre; rw [← List.map_append, List.take_append_drop]
theorem pre_pos {h : ByteArray} {l : List Am} (hp : ∀ x ∈ l, 0 ≤ x.v) : ∀ e ∈ pre h l, 0 ≤ e.2 := by
  intro e he
  obtain ⟨x, hx, rfl⟩ := List.mem_map.1 he
  exact hp x hx
/-- A map of sums in memory. -/
def MapAt (w : World) (b n : Nat) (es : List En) : Prop := ∃ D, w.ownsMap Tryz.prog 9 (plainElem Tryz.prog 2) b n D ∧ Sm D es
theorem MapAt.grown {w w' : World} {b n : Nat} {es : List En} (h : MapAt w b n es) (hg : w.grownBy w' none) : MapAt w' b n es := by
  obtain ⟨D, h1, h2⟩ := h
  exact ⟨D, h1.kept hg (by simp), h2⟩
/-- What lies in cells lies in no map's block. -/
theorem MapAt.ne {w : World} {b n : Nat} {es : List En} (h : MapAt w b n es) {a : Addr} {v : Value} (hc : w.cell? a = some v) : a.block ≠ b := by
  obtain ⟨D, ⟨es', clock, hb, _⟩, _⟩ := h
  intro e
  unfold World.cell? at hc
  rw [e, hb] at hc
  simp at hc
theorem Row.grownMap {α : Type} {K : Kd α} {w w' : World} {v : Value} {l : List α} {b n : Nat} {es : List En} (H : Row K w v l) (hm : MapAt w b n es) (hg : w.grownBy w' (some b)) : Row K w' v l := by
  obtain ⟨a, cap, e, h1, h2, h0, h3⟩ := H
  refine ⟨a, cap, e, h1, h2, h0, fun k hk => ?_⟩
  obtain ⟨c, off, ea, hc⟩ := h3 k hk
  refine ⟨c, off, ea, fun j y hy => ?_⟩
  have q := hc j y hy
  exact hg.cell q (by have := hm.ne q; simp only at this; intro e; injection e with e; exact this e)
end Go.Proofs.YtodfmnbfbndkhaaGreatDoor
