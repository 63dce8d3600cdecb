/-
  What PageBack's walks share.
-/
import Derived.Test.YtmoghdpjemidgaaPgDn
import Derived.Test.YtmoghdpjemidgaaPuC
import Derived.Test.YtmoghdpjemidgaaPgZ
import Derived.Test.YtmoghdpjemidgaaOpenD
namespace Go.Proofs.Ytmoghdpjemidgaa
open Go.RowKit Go.Maps
theorem u_of (a : Int) (h0 : 0 ≤ a) (h1 : a < 4294967296) : ∃ x, a = Sm.u x := Sm.u_of a h0 h1
theorem own_slice {B : Nat} {w : World} {v : Value} {l : List UInt8} (h : Own B w v l) (hl : l.length = 512) : ∃ g cap, v = .slice (some ⟨g, 0, none⟩) 512 cap ∧ 512 ≤ cap ∧ cap ≤ 9223372036854775807 := by
  obtain ⟨_, ⟨_, hn⟩ | ⟨g', cap', cur, hv, hB, hg', hnc, hm, _⟩⟩ := h
  · rw [hl] at hn; omega
  · rw [hl] at hv hnc; exact ⟨g', cap', hv, hnc, by unfold maxLen at hm; omega⟩
/-- The zero node. -/
def ndZ : Nd := ⟨0, [], [], [], [], 0, ⟨#[]⟩⟩
theorem lsZ (w : World) : Ls w ⟨.slice none 0 0, .slice none 0 0, .slice none 0 0, .slice none 0 0⟩ ndZ :=
  ⟨⟨none, 0, rfl, by simp [ndZ], by decide, fun _ => rfl, fun k hk => by simp [ndZ] at hk⟩, ⟨none, 0, rfl, by simp [ndZ], by decide, fun _ => rfl, fun k hk => by simp [ndZ] at hk⟩, ⟨none, 0, rfl, by simp [ndZ], by decide, fun _ => rfl, fun k hk => by simp [ndZ] at hk⟩, ⟨none, 0, rfl, by simp [ndZ], by decide, fun _ => rfl, fun k hk => by simp [ndZ] at hk⟩⟩
theorem same_zero (w : World) : Calls Try.prog 12 #[.agg #[.int .i64 0, .slice none 0 0, .slice none 0 0, .slice none 0 0, .slice none 0 0, .int .i64 0, .string ⟨#[]⟩], .agg #[.int .i64 0, .slice none 0 0, .slice none 0 0, .slice none 0 0, .slice none 0 0, .int .i64 0, .string ⟨#[]⟩]] w fun e w' => e = .returned (.bool true) ∧ Below w.heap.size w w' :=
  sameNode_yes ndZ ⟨.slice none 0 0, .slice none 0 0, .slice none 0 0, .slice none 0 0⟩ ⟨.slice none 0 0, .slice none 0 0, .slice none 0 0, .slice none 0 0⟩ w (lsZ w) (lsZ w)
theorem first_cell {w : World} {g : Nat} {l : List UInt8} (h : Bytes w (.slice (some ⟨g, 0, none⟩) 512 512) l) (hl : l.length = 512) (h0 : l.getD 0 0 = 181) : w.cell? ⟨g, 0, none⟩ = some (.int .u8 181) := by
  obtain ⟨a2, c2, e, _, _, _, h3⟩ := h
  simp only [Value.slice.injEq] at e
  obtain ⟨b2, o2, e2, h4⟩ := h3 0 (by omega)
  rw [← e.1] at e2
  simp only [Option.some.injEq, Addr.mk.injEq, and_true] at e2
  rw [← e2.1, ← e2.2, h0] at h4
  exact h4
/-- Four slices are a cell each. -/
theorem ls_one {w : World} {ve vc vk vh : Value} {n : Nd} (h : Ls w ⟨ve, vc, vk, vh⟩ n) : ve.oneCell' = true ∧ vc.oneCell' = true ∧ vk.oneCell' = true ∧ vh.oneCell' = true := by
  obtain ⟨ae, ce, he, _⟩ := h.e.len
  obtain ⟨ac, cc, hc, _⟩ := h.c.len
  obtain ⟨ak, ck, hk, _⟩ := h.k.len
  obtain ⟨ah, ch, hh, _⟩ := h.h.len
  simp only at he hc hk hh
  rw [he, hc, hk, hh]
  exact ⟨rfl, rfl, rfl, rfl⟩
/-- A node laid into a block just made. -/
theorem laid_node (w : World) (A : Array Value) : Below w.heap.size w ((w.alloc (.cells #[.int .i64 0, .slice none 0 0, .slice none 0 0, .slice none 0 0, .slice none 0 0, .int .i64 0, .string ⟨#[]⟩] 27)).setRow w.heap.size A) ∧ ((w.alloc (.cells #[.int .i64 0, .slice none 0 0, .slice none 0 0, .slice none 0 0, .slice none 0 0, .int .i64 0, .string ⟨#[]⟩] 27)).setRow w.heap.size A).heap[w.heap.size]? = some (.cells A 27 (0, 0)) := by
  have q := (Below.refl w.heap.size w).alloc (Nat.le_refl _) (.cells #[.int .i64 0, .slice none 0 0, .slice none 0 0, .slice none 0 0, .slice none 0 0, .int .i64 0, .string ⟨#[]⟩] 27)
  exact ⟨q.trans ((kept_setRow _ _ _).below q.size (fun x hx => by omega)), setRow_heap _ _ _ _ _ _ (heap_alloc_new _ _)⟩
end Go.Proofs.Ytmoghdpjemidgaa
