/-
  The ledger in memory: New, what a sum becomes, set, Used, Count.
-/
import Derived.Test.YtodfmnbfbndkhaaGreatDoorLeP
import Derived.Deep.RegionHeld3
import Derived.Deep.RegionLaw
import Derived.Deep.CutRange
namespace Go.Proofs.YtodfmnbfbndkhaaGreatDoor
open Go.RowKit
namespace Le
theorem lt_of_some {w : World} {b : Nat} {o : Obj} (h : w.heap[b]? = some o) : b < w.heap.size := by
  rcases Nat.lt_or_ge b w.heap.size with q | q
  · exact q
  · rw [Array.getElem?_eq_none q] at h; exact absurd h (by simp)
/-- The ledger at t, its map at b (at most n entries), read as D. -/
structure Ld (w : World) (t b n : Nat) (D : DataW Unit) : Prop where
  t : w.heap[t]? = some (.cells #[.map (some b)] 77 (0, 0))
  m : w.ownsMap Tryz.prog 79 rS b n D
variable {w w' : World} {t b n : Nat} {D : DataW Unit} {f : Ky → Int}
theorem own_same (h : w.ownsMap Tryz.prog 79 rS b n D) (e : w'.heap[b]? = w.heap[b]?) : w'.ownsMap Tryz.prog 79 rS b n D := by
  obtain ⟨es, clock, hb, F, hs, hD⟩ := h
  exact ⟨es, clock, e.trans hb, F, hs, hD⟩
theorem Ld.kept {F : Nat → Prop} (h : Ld w t b n D) (hk : Kept F w w') (ht : ¬ F t) (hb : ¬ F b) : Ld w' t b n D :=
  ⟨(hk.block t (lt_of_some h.t) ht).trans h.t, own_same h.m (hk.block b h.m.lt hb)⟩
theorem Ld.below (h : Ld w t b n D) (hb : Below w.heap.size w w') : Ld w' t b n D := h.kept (Below.kept hb (fun _ => False)) id id
theorem Ld.ne (h : Ld w t b n D) : t ≠ b := fun e => by
  obtain ⟨es, clock, hb, _⟩ := h.m
  have := h.t
  rw [e, hb] at this
  simp at this
theorem Ld.cell (h : Ld w t b n D) : w.cell? ⟨t, 0, none⟩ = some (.map (some b)) := by rw [cell_of_row w t 0 _ _ _ h.t]; rfl
theorem Ld.more (h : Ld w t b n D) {n' : Nat} (hn : n ≤ n') : Ld w t b n' D := ⟨h.t, h.m.mono hn⟩
theorem cellA {W : World} {a : Addr} {v : Value} (h : W.cell? a = some v) (o : Obj) : (W.alloc o).cell? a = some v := (((Below.refl _ W).alloc (Nat.le_refl _) o).cell (block_lt_of_cell h)).trans h
theorem make_map (w : World) : (Instr.makeMap 75 none).run Tryz.prog w = .ok (.map (some w.heap.size)) (w.alloc (.map #[] 0)) := by
  first | rfl | simp [Instr.makeMap, run_underlying Tryz.underlying75, Result.andThen]
theorem new_any (w : World) : Calls Tryz.prog 26 #[] w fun e w' => ∃ t b, e = .returned (.pointer (some ⟨t, 0, none⟩)) ∧ Ld w' t b 0 (.map []) ∧ w.heap.size ≤ t ∧ w.heap.size ≤ b ∧ Below w.heap.size w w' := by
  have hmm := make_map
  go_enter Tryz.func26, Tryz.ntmps26
  go_wp2_with fail
  go_ret
  refine ⟨_, _, rfl, ⟨?_, ?_⟩, ?_, Nat.le_refl _, ?_⟩
  · have := heap_alloc_new (w.alloc (.map #[] 0)) (.cells #[.map (some w.heap.size)] 77)
    rw [World.size_alloc] at this
    exact this
  · exact own_same (World.ownsMap_made w _ _ _) (Below.heap_alloc _ _ _ (by simp))
  · omega
  · exact ((Below.refl _ _).alloc (Nat.le_refl _) _).alloc (by simp) _
set_option maxRecDepth 100000 in
theorem charged_any (s v : Int) (hs : 0 ≤ s ∧ s ≤ MX) (hv : 0 ≤ v ∧ v ≤ MX) (w : World) : Calls Tryz.prog 30 #[.int .i64 s, .int .i64 v] w fun e w' => e = .returned (.tuple #[.int .i64 (bec true s v).1, .int .i64 (bec true s v).2]) ∧ w' = w := by
  by_cases h : MX - v < s
  · have E : Hid (bec true s v = (0, 7)) := Lib.hid (by unfold bec; rw [if_pos rfl, if_pos h])
    have g : decide (s > 9223372036854775807 - v) = true := decide_eq_true h
    clear h
    have w1 : wrap64 (9223372036854775807 - v) = 9223372036854775807 - v := by unfold MX at hv; unfold wrap64; omega
    clear hs hv
    go_enter Tryz.func30, Tryz.ntmps30
    go_wp2
    go_ret2
    rw [E.out]
    exact ⟨rfl, rfl⟩
  · have E : Hid (bec true s v = (s + v, 0)) := Lib.hid (by unfold bec; rw [if_pos rfl, if_neg h])
    have g : decide (s > 9223372036854775807 - v) = false := decide_eq_false h
    have w1 : wrap64 (9223372036854775807 - v) = 9223372036854775807 - v := by unfold MX at hv; unfold wrap64; omega
    have w2 : Hid (wrap64 (s + v) = s + v) := Lib.hid (by unfold MX at hv hs h; unfold wrap64; omega)
    clear hs hv h
    go_enter Tryz.func30, Tryz.ntmps30
    go_wp2
    go_ret2
    rw [E.out]
    refine ⟨?_, rfl⟩
    show Ending.returned (.tuple #[.int .i64 (wrap64 (s + v)), .int .i64 0]) = _
    rw [w2.out]
set_option maxRecDepth 100000 in
theorem released_any (s v : Int) (hs : 0 ≤ s ∧ s ≤ MX) (hv : 0 ≤ v ∧ v ≤ MX) (w : World) : Calls Tryz.prog 33 #[.int .i64 s, .int .i64 v] w fun e w' => e = .returned (.tuple #[.int .i64 (bec false s v).1, .int .i64 (bec false s v).2]) ∧ w' = w := by
  by_cases h : s < v
  · have E : Hid (bec false s v = (0, 170)) := Lib.hid (by unfold bec; rw [if_neg (by decide), if_pos h])
    have g : decide (s < v) = true := decide_eq_true h
    clear h
    go_enter Tryz.func33, Tryz.ntmps33
    go_wp2
    go_ret2
    rw [E.out]
    exact ⟨rfl, rfl⟩
  · have E : Hid (bec false s v = (s - v, 0)) := Lib.hid (by unfold bec; rw [if_neg (by decide), if_neg h])
    have g : decide (s < v) = false := decide_eq_false h
    have w2 : Hid (wrap64 (s - v) = s - v) := Lib.hid (by unfold MX at hv hs; unfold wrap64; omega)
    clear hs hv h
    go_enter Tryz.func33, Tryz.ntmps33
    go_wp2
    go_ret2
    rw [E.out]
    refine ⟨?_, rfl⟩
    show Ending.returned (.tuple #[.int .i64 (wrap64 (s - v)), .int .i64 0]) = _
    rw [w2.out]
theorem Ld.mcell (h : Ld w t b n D) {g i : Nat} {y : Value} (hc : w.cell? ⟨g, i, none⟩ = some y) : g ≠ b := fun e => by
  obtain ⟨es, clock, hb, _⟩ := h.m
  rw [e] at hc
  simp [World.cell?, hb] at hc
set_option maxHeartbeats 4000000 in
set_option maxRecDepth 100000 in
theorem set_any (x : Ky) (v : Int) (H : Ld w t b n D) (hx : x.Fit) (hn : n ≤ 1000000000000000) :
    Calls Tryz.prog 58 #[.pointer (some ⟨t, 0, none⟩), x.val, .int .i64 v] w fun e w' => e = .returned (.tuple #[]) ∧ Ld w' t b (n + 1) (if v = 0 then D.del x.lit else D.put x.lit (eS v)) ∧ Kept (fun y => y = b) w w' := by
  have KY := Lib.hid (key_mk x hx)
  obtain ⟨g4, hg4⟩ : ∃ g, g = w.heap.size := ⟨_, rfl⟩
  obtain ⟨xp, xk, xa, xr⟩ := x
  obtain ⟨X, hX⟩ : ∃ X, X = w.alloc (.cells #[.string xp, .int .i64 xk, .int .i64 xa, .string xr] 79) := ⟨_, rfl⟩
  have b1 : Below w.heap.size w X := by rw [hX]; exact (Below.refl _ _).alloc (Nat.le_refl _) _
  have hb : X.heap[g4]? = some (.cells #[.string xp, .int .i64 xk, .int .i64 xa, .string xr] 79 (0, 0)) := by rw [hX, hg4]; exact heap_alloc_new _ _
  have T : Hid (Ld X.drew t b n D ∧ Below w.heap.size w X) := Lib.hid ⟨(H.below b1).below (Below.refl X.heap.size X).drew, b1⟩
  have c0 : X.cell? ⟨t, 0, none⟩ = some (.map (some b)) := (H.below b1).cell
  have d0 : X.drew.cell? ⟨t, 0, none⟩ = some (.map (some b)) := c0
  have c1 : X.cell? ⟨g4, 0, none⟩ = some (.string xp) := by rw [cell_of_row _ _ _ _ _ _ hb]; rfl
  have c2 : X.cell? ⟨g4, 1, none⟩ = some (.int .i64 xk) := by rw [cell_of_row _ _ _ _ _ _ hb]; rfl
  have c3 : X.cell? ⟨g4, 2, none⟩ = some (.int .i64 xa) := by rw [cell_of_row _ _ _ _ _ _ hb]; rfl
  have c4 : X.cell? ⟨g4, 3, none⟩ = some (.string xr) := by rw [cell_of_row _ _ _ _ _ _ hb]; rfl
  have d1 : X.drew.cell? ⟨g4, 0, none⟩ = some (.string xp) := c1
  have d2 : X.drew.cell? ⟨g4, 1, none⟩ = some (.int .i64 xk) := c2
  have d3 : X.drew.cell? ⟨g4, 2, none⟩ = some (.int .i64 xa) := c3
  have d4 : X.drew.cell? ⟨g4, 3, none⟩ = some (.string xr) := c4
  have hX' := hX.symm
  have hg4' := hg4.symm
  have MN : Hid (n < maxLen) := Lib.hid (by unfold maxLen; omega)
  clear hX hg4 H b1 hb hx hn
  unfold Ky.val at KY ⊢
  simp only at KY ⊢
  by_cases h0 : v = 0
  · subst h0
    obtain ⟨X3, hdel, hm3, htu3⟩ := T.out.1.m.drop K Tryz.underlying75 KY.out 0
    have F : Hid (Ld X3 t b n (D.del (Ky.lit ⟨xp, xk, xa, xr⟩)) ∧ Kept (fun y => y = b) w X3) := Lib.hid (by
      have gr := htu3.grown
      have kp : Kept (fun y => y = b) X.drew X3 := (grown_kept gr).mono (fun y _ e => Option.some.inj e)
      exact ⟨⟨(kp.block t (lt_of_some T.out.1.t) T.out.1.ne).trans T.out.1.t, hm3⟩, (Below.kept (T.out.2.drew) _).trans kp (fun _ _ e => e)⟩)
    have KP : Hid (∀ (g i : Nat) (y : Value), X.drew.cell? ⟨g, i, none⟩ = some y → X3.cell? ⟨g, i, none⟩ = some y) := Lib.hid (fun g i y h => by
      rw [World.cell?_of_block (htu3.grown.block g (block_lt_of_cell h) (fun e => T.out.1.mcell h (Option.some.inj e)))]
      exact h)
    have u0 := KP.out _ _ _ d0
    have u1 := KP.out _ _ _ d1
    have u2 := KP.out _ _ _ d2
    have u3 := KP.out _ _ _ d3
    have u4 := KP.out _ _ _ d4
    clear hm3 htu3
    go_enter Tryz.func58, Tryz.ntmps58
    go_wp2_with fail
    go_region_held3 (fun W : World => W.cell? ⟨t, 0, none⟩ = some (.map (some b)) ∧ W.cell? ⟨g4, 0, none⟩ = some (.string xp) ∧ W.cell? ⟨g4, 1, none⟩ = some (.int .i64 xk) ∧ W.cell? ⟨g4, 2, none⟩ = some (.int .i64 xa) ∧ W.cell? ⟨g4, 3, none⟩ = some (.string xr)) (first | exact ⟨by assumption, by assumption, by assumption, by assumption, by assumption⟩ | go_keep) (fail)
    all_goals
      go_wp2_with fail
      first | go_end0 | refine bodyPost_ret (results_none rfl _ _ _) rfl ?_
      exact ⟨rfl, F.out.1.more (Nat.le_succ _), F.out.2⟩
  · obtain ⟨X3, hrun, hm3, gr3⟩ := T.out.1.m.update K Tryz.underlying75 MN.out KY.out (rS_mk v)
    have F : Hid (Ld X3 t b (n + 1) (D.put (Ky.lit ⟨xp, xk, xa, xr⟩) (eS v)) ∧ Kept (fun y => y = b) w X3) := Lib.hid (by
      have kp : Kept (fun y => y = b) X.drew X3 := (grown_kept gr3).mono (fun y _ e => Option.some.inj e)
      exact ⟨⟨(kp.block t (lt_of_some T.out.1.t) T.out.1.ne).trans T.out.1.t, hm3⟩, (Below.kept (T.out.2.drew) _).trans kp (fun _ _ e => e)⟩)
    have KP : Hid (∀ (g i : Nat) (y : Value), X.drew.cell? ⟨g, i, none⟩ = some y → X3.cell? ⟨g, i, none⟩ = some y) := Lib.hid (fun g i y h => by
      rw [World.cell?_of_block (gr3.block g (block_lt_of_cell h) (fun e => T.out.1.mcell h (Option.some.inj e)))]
      exact h)
    have u0 := KP.out _ _ _ d0
    have u1 := KP.out _ _ _ d1
    have u2 := KP.out _ _ _ d2
    have u3 := KP.out _ _ _ d3
    have u4 := KP.out _ _ _ d4
    have gv : (v == 0) = false := by rw [beq_eq_false_iff_ne]; exact h0
    have HV := Lib.hid h0
    clear hm3 gr3 h0
    go_enter Tryz.func58, Tryz.ntmps58
    go_wp2_with fail
    go_region_held3 (fun W : World => W.cell? ⟨t, 0, none⟩ = some (.map (some b)) ∧ W.cell? ⟨g4, 0, none⟩ = some (.string xp) ∧ W.cell? ⟨g4, 1, none⟩ = some (.int .i64 xk) ∧ W.cell? ⟨g4, 2, none⟩ = some (.int .i64 xa) ∧ W.cell? ⟨g4, 3, none⟩ = some (.string xr)) (first | exact ⟨by assumption, by assumption, by assumption, by assumption, by assumption⟩ | go_keep) (fail)
    all_goals
      go_wp2_with fail
      first | go_end0 | refine bodyPost_ret (results_none rfl _ _ _) rfl ?_
      exact ⟨rfl, F.out.1, F.out.2⟩
theorem zero_sum (w : World) : (zeroValue 74).run Tryz.prog w = .ok (.int .i64 0) w := by kernel_rfl
set_option maxHeartbeats 4000000 in
set_option maxRecDepth 100000 in
theorem used_any (x : Ky) (H : Ld w t b n D) (R : Rep D f) (hx : x.Fit) :
    Calls Tryz.prog 18 #[.pointer (some ⟨t, 0, none⟩), .string x.p, .agg #[.int .i64 x.k, .int .i64 x.a], .string x.r] w fun e w' => e = .returned (.int .i64 (f x)) ∧ Below w.heap.size w w' := by
  obtain ⟨g6, hg6⟩ : ∃ g, g = w.heap.size := ⟨_, rfl⟩
  have LK : Hid (D.atKey x.lit (eS 0) = eS (f x)) := Lib.hid (R.look hx)
  have KY := Lib.hid (key_mk x hx)
  obtain ⟨fx, hfx⟩ : ∃ v, v = f x := ⟨_, rfl⟩
  rw [← hfx] at LK ⊢
  obtain ⟨xp, xk, xa, xr⟩ := x
  obtain ⟨X, hX⟩ : ∃ X, X = w.alloc (.cells #[.int .i64 xk, .int .i64 xa] 39) := ⟨_, rfl⟩
  have b1 : Below w.heap.size w X := by rw [hX]; exact (Below.refl _ _).alloc (Nat.le_refl _) _
  have hb : X.heap[g6]? = some (.cells #[.int .i64 xk, .int .i64 xa] 39 (0, 0)) := by rw [hX, hg6]; exact heap_alloc_new _ _
  have T : Hid (Ld X.drew t b n D ∧ Below w.heap.size w X) := Lib.hid ⟨(H.below b1).below (Below.refl X.heap.size X).drew, b1⟩
  have c0 : X.cell? ⟨t, 0, none⟩ = some (.map (some b)) := (H.below b1).cell
  have c1 : X.cell? ⟨g6, 0, none⟩ = some (.int .i64 xk) := by rw [cell_of_row _ _ _ _ _ _ hb]; rfl
  have c2 : X.cell? ⟨g6, 1, none⟩ = some (.int .i64 xa) := by rw [cell_of_row _ _ _ _ _ _ hb]; rfl
  have d0 : X.drew.cell? ⟨t, 0, none⟩ = some (.map (some b)) := c0
  have d1 : X.drew.cell? ⟨g6, 0, none⟩ = some (.int .i64 xk) := c1
  have d2 : X.drew.cell? ⟨g6, 1, none⟩ = some (.int .i64 xa) := c2
  obtain ⟨v0, ps, hrun, hv⟩ := T.out.1.m.lookup K Tryz.underlying75 (zero_sum _) (rS_mk 0) KY.out
  obtain ⟨c, rfl, hc⟩ := rS_inv _ _ hv
  simp only [Prod.mk.injEq] at hc
  obtain rfl : c = fx := by
    have q := hc.1
    rw [LK.out] at q
    exact (eS_inj q).symm
  unfold Ky.val at hrun
  simp only at hrun ⊢
  have hX' := hX.symm
  have hg6' := hg6.symm
  have B : Hid (Below w.heap.size w X.drew) := Lib.hid b1.drew
  clear hX hg6 H b1 hb hx hc hv hfx R
  go_enter Tryz.func18, Tryz.ntmps18
  go_wp2_with fail
  go_region_held3 (fun W : World => W.cell? ⟨t, 0, none⟩ = some (.map (some b)) ∧ W.cell? ⟨g6, 0, none⟩ = some (.int .i64 xk) ∧ W.cell? ⟨g6, 1, none⟩ = some (.int .i64 xa)) (first | exact ⟨by assumption, by assumption, by assumption⟩ | go_keep) (fail)
  all_goals
    go_wp2_with fail
    go_ret
    exact ⟨rfl, B.out⟩
end Le
end Go.Proofs.YtodfmnbfbndkhaaGreatDoor
