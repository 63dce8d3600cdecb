/-
  New, has, held.
-/
import Derived.Test.YtdhnpgciclbfeaaGreatDoorAcM
namespace Go.Proofs.YtdhnpgciclbfeaaGreatDoor
open Go.RowKit
namespace Ac
/-- The table at t, its map at b (at most n entries), read as D. -/
structure Tb (w : World) (t b n : Nat) (D : DataW Unit) : Prop where
  t : w.heap[t]? = some (.cells #[.map (some b)] 51 (0, 0))
  m : w.ownsMap Tryz.prog 53 rR b n D
variable {w w' : World} {t b n : Nat} {D : DataW Unit}
theorem own_same (h : w.ownsMap Tryz.prog 53 rR b n D) (e : w'.heap[b]? = w.heap[b]?) : w'.ownsMap Tryz.prog 53 rR b n D := by
  obtain ⟨es, clock, hb, F, hs, hD⟩ := h
  exact ⟨es, clock, e.trans hb, F, hs, hD⟩
theorem Tb.kept {F : Nat → Prop} (h : Tb w t b n D) (hk : Kept F w w') (ht : ¬ F t) (hb : ¬ F b) : Tb w' t b n D :=
  ⟨(hk.block t (lt_of_some h.t) ht).trans h.t, own_same h.m (hk.block b h.m.lt hb)⟩
theorem Tb.below (h : Tb w t b n D) (hb : Below w.heap.size w w') : Tb w' t b n D := h.kept (Below.kept hb (fun _ => False)) id id
theorem Tb.ne (h : Tb w t b n D) : t ≠ b := fun e => by
  obtain ⟨es, clock, hb, _⟩ := h.m
  have := h.t
  rw [e, hb] at this
  simp at this
theorem Tb.cell (h : Tb w t b n D) : w.cell? ⟨t, 0, none⟩ = some (.map (some b)) := by rw [cell_of_row w t 0 _ _ _ h.t]; rfl
theorem Tb.more (h : Tb w t b n D) {n' : Nat} (hn : n ≤ n') : Tb w t b n' D := ⟨h.t, h.m.mono hn⟩
theorem teq_no {x y : ByteArray} (h : x ≠ y) : (x.toList == y.toList) = false := by
  rw [beq_eq_false_iff_ne]
  intro e
  apply h
  rw [ByteArray.toList_eq, ByteArray.toList_eq] at e
  exact ByteArray.ext (Array.ext' e)
theorem make_map (w : World) : (Instr.makeMap 49 none).run Tryz.prog w = .ok (.map (some w.heap.size)) (w.alloc (.map #[] 0)) := by
  first | rfl | simp [Instr.makeMap, run_underlying Tryz.underlying49, Result.andThen]
theorem new_any (w : World) : Calls Tryz.prog 14 #[] w fun e w' => ∃ t b, e = .returned (.pointer (some ⟨t, 0, none⟩)) ∧ Tb w' t b 0 (.map []) ∧ w.heap.size ≤ t ∧ w.heap.size ≤ b ∧ Below w.heap.size w w' := by
  have hmm := make_map
  go_enter Tryz.func14, Tryz.ntmps14
  go_wp2_with fail
  go_ret
  refine ⟨_, _, rfl, ⟨?_, ?_⟩, ?_, Nat.le_refl _, ?_⟩
  · have := heap_alloc_new (w.alloc (.map #[] 0)) (.cells #[.map (some w.heap.size)] 51)
    rw [World.size_alloc] at this
    exact this
  · exact own_same (World.ownsMap_made w _ _ _) (Below.heap_alloc _ _ _ (by simp))
  · omega
  · exact ((Below.refl _ _).alloc (Nat.le_refl _) _).alloc (by simp) _
theorem zero_right (w : World) : (zeroValue 55).run Tryz.prog w = .ok (rv ⟨#[]⟩ 0) w := by kernel_rfl
set_option maxHeartbeats 2000000 in
set_option maxRecDepth 100000 in
theorem has_any (p q : ByteArray) (w : World) (t b n : Nat) (D : DataW Unit) (H : Tb w t b n D) (hp : p.size ≤ maxLen) (hq : q.size ≤ maxLen) :
    Calls Tryz.prog 19 #[.pointer (some ⟨t, 0, none⟩), .string p, .string q] w fun e w' => e = .returned (.bool (Maps.has D (kl p q))) ∧ Below w.heap.size w w' := by
  have H' := Lib.hid H
  have KY := Lib.hid (key_mk p q hp hq)
  have c0 := H.cell
  clear H hp hq
  go_enter Tryz.func19, Tryz.ntmps19
  go_wp2_with (at_lookup; refine wpList_lookup_own_ok _ rfl _ _ 49 rfl 53 55 K Tryz.underlying49 rR (zero_right _) (eR ⟨#[]⟩ 0) [] (rR_mk _ _) b n D rfl H'.out.m _ _ rfl KY.out ?_; intro v ps hv; obtain ⟨⟨s, m⟩, hvv, -⟩ := rR_inv v _ hv; subst hvv; clear hv; unfold rv)
  go_ret
  exact ⟨rfl, (Below.refl _ _).alloc (Nat.le_refl _) _⟩
set_option maxHeartbeats 4000000 in
set_option maxRecDepth 100000 in
theorem held_any (p : ByteArray) (w : World) (t b n : Nat) (D : DataW Unit) (H : Tb w t b n D) (hn : n ≤ 1000000) :
    Calls Tryz.prog 34 #[.pointer (some ⟨t, 0, none⟩), .string p] w fun e w' => ∃ k : Nat, e = .returned (.int .i64 k) ∧ k ≤ Maps.size D ∧ Below w.heap.size w w' := by
  have H' := Lib.hid H
  have SZ := Lib.hid (Nat.le_trans H.m.size_le hn)
  have c0 := H.cell
  clear H hn
  obtain ⟨r, hr⟩ : ∃ r, r = w.heap.size := ⟨_, rfl⟩
  go_enter Tryz.func34, Tryz.ntmps34
  go_wp2_with (at_range; refine wpList_range_own _ rfl _ 49 rfl 53 55 K Tryz.underlying49 rR b n D rfl H'.out.m ?_; intro w0 hrg0 hg0 hs0)
  go_frame
  rw [← hr] at hrg0 ⊢
  have S0 : Hid (w0.ranges Tryz.prog 53 rR b r n D (Maps.has D) (Maps.size D) ∧ Below w.heap.size w w0) := Lib.hid ⟨hrg0, (Below.refl _ w).grown hg0 (Nat.le_refl _) (fun k e => by cases e)⟩
  have RB : Hid (w.heap.size ≤ r) := Lib.hid (by rw [hr]; exact Nat.le_refl _)
  clear hrg0 hg0 hs0 hr
  go_loopw [5] (fun s wr => ∃ (left : Lit → Bool) (cnt k : Nat), s = .int .i64 k ∧ Hid (wr.ranges Tryz.prog 53 rR b r n D left cnt ∧ Below w.heap.size w wr ∧ k + cnt ≤ Maps.size D)) (fun _ wr => wr.rangeLeft b r)
  case atStart => exact ⟨_, _, 0, rfl, Lib.hid ⟨S0.out.1, S0.out.2, by omega⟩⟩
  case round =>
    clear S0
    obtain ⟨left, cnt, k, rfl, S⟩ := hrel
    have hk : (k : Int) < 1000001 := by have := S.out.2.2; have := SZ.out; omega
    go_wp2_with (at_next; refine wpList_next_ranges _ rfl _ rfl 53 K rR (fun x : ByteArray × ByteArray => pv x.1 x.2) (fun x : ByteArray × Int => rv x.1 x.2) (fun key l h => (key_inv key l h).imp fun _ q => q.1) (fun v y h => (rR_inv v y h).imp fun _ q => q.1) b r n D left cnt rfl S.out.1 ?_ ?_)
    · intro h0 hl
      go_wp2_with fail
      go_ret
      exact ⟨k, rfl, by have := S.out.2.2; omega, S.out.2.1⟩
    · rintro p2 q2 s2 v2 l2 yd yp w2 cnt2 hkey hl2 hR hat hrg2 hlt hg2 hs2 hen
      unfold pv rv at hen
      have S2 : Hid (w2.ranges Tryz.prog 53 rR b r n D (fun z => left z && !z.sameKey l2) cnt2 ∧ Below w.heap.size w w2 ∧ cnt2 < cnt) := Lib.hid ⟨hrg2, S.out.2.1.trans ((Below.refl _ wr).grown hg2 S.out.2.1.size (fun k e => by cases e; exact RB.out)), hlt⟩
      clear hkey hl2 hR hat hrg2 hlt hg2 hs2
      by_cases he : p2 = p
      · subst he
        have A2 : Hid (World.ranges (w2.alloc (.cells #[.string p2, .string q2] 53)) Tryz.prog 53 rR b r n D (fun z => left z && !z.sameKey l2) cnt2 ∧ Below w.heap.size w (w2.alloc (.cells #[.string p2, .string q2] 53))) := Lib.hid ⟨S2.out.1.alloc _, S2.out.2.1.alloc S2.out.2.1.size _⟩
        go_wp2_with fail
        go_roundw
        case rel => exact ⟨_, cnt2, k + 1, by go_num, Lib.hid ⟨A2.out.1, A2.out.2, by have := S.out.2.2; have := S2.out.2.2; omega⟩⟩
        case measure => rw [A2.out.1.left_eq, S.out.1.left_eq]; exact S2.out.2.2
      · have ge := teq_no he
        clear he
        have A2 : Hid (World.ranges (w2.alloc (.cells #[.string p2, .string q2] 53)) Tryz.prog 53 rR b r n D (fun z => left z && !z.sameKey l2) cnt2 ∧ Below w.heap.size w (w2.alloc (.cells #[.string p2, .string q2] 53))) := Lib.hid ⟨S2.out.1.alloc _, S2.out.2.1.alloc S2.out.2.1.size _⟩
        go_wp2_with fail
        go_roundw
        case rel => exact ⟨_, cnt2, k, rfl, Lib.hid ⟨A2.out.1, A2.out.2, by have := S.out.2.2; have := S2.out.2.2; omega⟩⟩
        case measure => rw [A2.out.1.left_eq, S.out.1.left_eq]; exact S2.out.2.2
end Ac
end Go.Proofs.YtdhnpgciclbfeaaGreatDoor
