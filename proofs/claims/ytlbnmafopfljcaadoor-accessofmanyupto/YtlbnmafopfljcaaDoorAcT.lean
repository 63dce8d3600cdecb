/-
  New, has, held.
-/
import Derived.Test.YtlbnmafopfljcaaDoorAcM
namespace Go.Proofs.YtlbnmafopfljcaaDoor
open Go.RowKit
namespace Ac
/-- The table at t, its map at b (at most n entries), read as D. -/
structure Tb (w : World) (t b n : Nat) (D : DataW Unit) : Prop where
  t : w.heap[t]? = some (.cells #[.map (some b)] 44 (0, 0))
  m : w.ownsMap Tryd.prog 46 rR b n D
variable {w w' : World} {t b n : Nat} {D : DataW Unit}
theorem own_same (h : w.ownsMap Tryd.prog 46 rR b n D) (e : w'.heap[b]? = w.heap[b]?) : w'.ownsMap Tryd.prog 46 rR b n D := by
  obtain ⟨es, clock, hb, F, hs, hD⟩ := h
  exact ⟨es, clock, e.trans hb, F, hs, hD⟩
theorem Tb.kept {F : Nat → Prop} (h : Tb w t b n D) (hk : Kept F w w') (ht : ¬ F t) (hb : ¬ F b) : Tb w' t b n D :=
  ⟨(hk.block t (lt_of_some h.t) ht).trans h.t, own_same h.m (hk.block b h.m.lt hb)⟩
theorem Tb.below (h : Tb w t b n D) (hb : Below w.heap.size w w') : Tb w' t b n D := h.kept (Below.kept hb (fun _ => False)) id id
theorem Tb.ne (h : Tb w t b n D) : t ≠ b := fun e => by
  obtain ⟨es, clock, hb, _⟩ := h.m
  have := h.t
  rw [e, hb] at this
  simp at this
theorem Tb.cell (h : Tb w t b n D) : w.cell? ⟨t, 0, none⟩ = some (.map (some b)) := by rw [cell_of_row w t 0 _ _ _ h.t]; rfl
theorem Tb.more (h : Tb w t b n D) {n' : Nat} (hn : n ≤ n') : Tb w t b n' D := ⟨h.t, h.m.mono hn⟩
theorem teq_no {x y : ByteArray} (h : x ≠ y) : (x.toList == y.toList) = false := by
  rw [beq_eq_false_iff_ne]
  intro e
  apply h
  rw [ByteArray.toList_eq, ByteArray.toList_eq] at e
  exact ByteArray.ext (Array.ext' e)
theorem make_map (w : World) : (Instr.makeMap 42 none).run Tryd.prog w = .ok (.map (some w.heap.size)) (w.alloc (.map #[] 0)) := by
  first | rfl | simp [Instr.makeMap, run_underlying Tryd.underlying42, Result.andThen]
theorem new_any (w : World) : Calls Tryd.prog 9 #[] w fun e w' => ∃ t b, e = .returned (.pointer (some ⟨t, 0, none⟩)) ∧ Tb w' t b 0 (.map []) ∧ w.heap.size ≤ t ∧ w.heap.size ≤ b ∧ Below w.heap.size w w' := by
  have hmm := make_map
  go_enter Tryd.func9, Tryd.ntmps9
  go_wp2_with fail
  go_ret
  refine ⟨_, _, rfl, ⟨?_, ?_⟩, ?_, Nat.le_refl _, ?_⟩
  · have := heap_alloc_new (w.alloc (.map #[] 0)) (.cells #[.map (some w.heap.size)] 44)
    rw [World.size_alloc] at this
    exact this
  · exact own_same (World.ownsMap_made w _ _ _) (Below.heap_alloc _ _ _ (by simp))
  · omega
  · exact ((Below.refl _ _).alloc (Nat.le_refl _) _).alloc (by simp) _
theorem zero_right (w : World) : (zeroValue 48).run Tryd.prog w = .ok (rv ⟨#[]⟩ 0) w := by kernel_rfl
set_option maxHeartbeats 2000000 in
set_option maxRecDepth 100000 in
theorem has_any (p q : ByteArray) (w : World) (t b n : Nat) (D : DataW Unit) (H : Tb w t b n D) (hp : p.size ≤ maxLen) (hq : q.size ≤ maxLen) :
    Calls Tryd.prog 11 #[.pointer (some ⟨t, 0, none⟩), .string p, .string q] w fun e w' => e = .returned (.bool (Maps.has D (kl p q))) ∧ Below w.heap.size w w' := by
  have H' := Lib.hid H
  have KY := Lib.hid (key_mk p q hp hq)
  have c0 := H.cell
  clear H hp hq
  go_enter Tryd.func11, Tryd.ntmps11
  go_wp2_with (at_lookup; refine wpList_lookup_own_ok _ rfl _ _ 42 rfl 46 48 K Tryd.underlying42 rR (zero_right _) (eR ⟨#[]⟩ 0) [] (rR_mk _ _) b n D rfl H'.out.m _ _ rfl KY.out ?_; intro v ps hv; obtain ⟨⟨s, m⟩, hvv, -⟩ := rR_inv v _ hv; subst hvv; clear hv; unfold rv)
  go_ret
  exact ⟨rfl, (Below.refl _ _).alloc (Nat.le_refl _) _⟩
end Ac
end Go.Proofs.YtlbnmafopfljcaaDoor
