/-
  scan: one group of one block.
-/
import Derived.Test.YtfljbipnjfciaabWaQ
namespace Go.Proofs.Ytfljbipnjfciaab
open Go.RowKit Go.Maps
variable {B : Nat} {w W W' : World} {d mb mp : Nat} {cv : Value} {ds : DS} {l : Nat} {pv : Value} {s : LS}
def LS.step (s : LS) : LS := { s with es := s.es + 1, ea := (s.ea + 1) % s.n }
theorem step_fit (h : LFit s) (hp : s.pay = []) (hq : s.pend = 0) (hf : 0 < s.free) (he : s.es ≤ 1152921504606846976) : LFit s.step := by
  obtain ⟨q1, q2, q3, q4, q5, q6, q7, q8, q9, q10, q11, q12, q13, q14⟩ := h
  unfold LS.free at hf
  refine ⟨q1, q2, q3, q4, q5, q6, ?_, ?_, ?_, q10, ?_, ?_, ?_, ?_⟩
  · show s.fs ≤ s.es + 1
    omega
  · show s.es + 1 ≤ s.fs + s.n
    omega
  · show s.es + 1 ≤ _
    omega
  · show (s.ea + 1) % s.n = (s.fa + (s.es + 1 - s.fs)) % s.n
    rw [q11, Nat.mod_add_mod]
    congr 1
    omega
  · show s.pay.length ≤ _
    rw [hp]; simp
  · show s.pay.length ≤ _
    rw [hp]; simp
  · show s.pend ≤ _
    rw [hq]; simp
set_option maxRecDepth 100000 in
set_option maxHeartbeats 8000000 in
theorem scan_one (h : Wl B w d mb mp cv ds l pv s) (hdn : ds.down = false) (hn : s.fst + s.n ≤ ds.n) (hp : s.pay = []) (hq : s.pend = 0) (hse : s.es ≤ 1152921504606846976) (g : Grp) (ge : Nat) (hge : g.ep = (ge : Int)) (p : List UInt8) (hpl : p.length ≤ 464) (hg : OneG s 1 g) (hz : unR (rdB ds (s.at 0)) = (g, p, 0)) (rs : List ByteArray) (hsp : spl p = (rs, true)) (hrs : rs.length ≤ 1000) (hf2 : 0 < s.step.free) (hz2 : unR (rdB ds (s.step.at 0)) = (zeroG, [], 2)) :
    Calls Try.prog 61 #[.pointer (some ⟨l, 0, none⟩)] w fun e w' => ∃ vr, e = .returned (.tuple #[vr, .int .i64 0]) ∧ OwnS w.heap.size w' vr rs ∧ Wl B w' d mb mp cv (rd1 (rd1 ds)) l pv s.step ∧ Kept (fun k => k = d ∨ k = l) w w' := by
  have H := Lib.hid h
  obtain ⟨F, hF⟩ : ∃ F, F = s.free := ⟨_, rfl⟩
  have hf : 0 < F := by rw [hF]; have := hg.fr; omega
  have FR : Hid (Calls Try.prog 62 #[.pointer (some ⟨l, 0, none⟩)] w fun e w' => e = .returned (.int .i64 (F : Int)) ∧ Below w.heap.size w w') := Lib.hid (by rw [hF]; exact free_any h.lg)
  have GR : Hid (∀ W, Below w.heap.size w W → Calls Try.prog 83 #[.pointer (some ⟨l, 0, none⟩), .int .i64 1] W fun e w' => ∃ vp, e = .returned (.tuple #[.agg g.arr, vp, .int .i64 0]) ∧ Own W.heap.size w' vp p ∧ Wl B w' d mb mp cv (rd1 ds) l pv s ∧ Kept (fun k => k = d) W w') := Lib.hid (fun W hb => group_one (h.below hb) hdn hn 1 g p hg hz)
  have SF := Lib.hid (step_fit h.lg.fit hp hq (by have := hg.fr; omega) hse)
  have lne := Lib.hid h.l_ne
  have ldd : Hid (l ≠ d) := Lib.hid (fun e => h.l_ne (.inl e))
  have NX : Hid (∀ W, Wl B W d mb mp cv (rd1 ds) l pv s.step → Calls Try.prog 83 #[.pointer (some ⟨l, 0, none⟩), .int .i64 (ge : Int)] W fun e w' => e = .returned (.tuple #[.agg zeroG.arr, .slice none 0 0, .int .i64 0]) ∧ Wl B w' d mb mp cv (rd1 (rd1 ds)) l pv s.step ∧ Kept (fun k => k = d) W w') := Lib.hid (fun W hb => group_zero hb hdn hn ge hz2)
  obtain ⟨F2, hF2⟩ : ∃ F2, F2 = s.step.free := ⟨_, rfl⟩
  rw [← hF2] at hf2
  have FR2 : Hid (∀ W, Wl B W d mb mp cv (rd1 ds) l pv s.step → Calls Try.prog 62 #[.pointer (some ⟨l, 0, none⟩)] W fun e w' => e = .returned (.int .i64 (F2 : Int)) ∧ Below W.heap.size W w') := Lib.hid (fun W hb => by rw [hF2]; exact free_any hb.lg)
  have SPN : Hid (∀ W, Calls Try.prog 84 #[.slice none 0 0] W fun e w' => ∃ vr, e = .returned (.tuple #[vr, .bool false]) ∧ Below W.heap.size W w') := Lib.hid (fun W => by
    refine (split_any _ [] W (Bytes.nil W) (by simp)).mono ?_
    rintro e w' ⟨vr, rfl, _, hb⟩
    exact ⟨vr, rfl, hb⟩)
  obtain ⟨gi, gt⟩ : g.ix = 0 ∧ g.tot = 1 := ⟨hg.ix, hg.tt⟩
  have GA : Hid (g.arr[0]? = some (.int .i64 (ge : Int)) ∧ g.arr[3]? = some (.int .i64 1)) := Lib.hid ⟨by rw [← hge]; rfl, by rw [← gt]; rfl⟩
  have PLE := Lib.hid hpl
  have SPL := Lib.hid hsp
  have RSL := Lib.hid hrs
  obtain ⟨es, hes⟩ : ∃ es, es = s.es + 1 := ⟨_, rfl⟩
  obtain ⟨ea, hea⟩ : ∃ ea, ea = (s.ea + 1) % s.n := ⟨_, rfl⟩
  have SS : Hid (s.step = { s with es := es, ea := ea }) := Lib.hid (by unfold LS.step; rw [hes, hea])
  have AH : Hid (∀ W, Wl B W d mb mp cv (rd1 ds) l pv s → Calls Try.prog 67 #[.pointer (some ⟨l, 0, none⟩), .int .i64 1] W fun e w' => e = .returned (.agg #[.int .i64 (es : Int), .int .i64 (ea : Int)]) ∧ Below W.heap.size W w') := Lib.hid (fun W hb => by rw [hes, hea]; exact ahead_any hb.lg 1 (by omega))
  clear h hdn hn hz hF hp hq hse hge hpl hg hsp hrs hz2 hF2 gi gt hes hea
  have hf' : (0 : Int) < (F : Int) := by omega
  have hf2' : (0 : Int) < (F2 : Int) := by omega
  go_enter Try.func61, Try.ntmps61
  go_wp2_with fail
  refine wp_loop_rounds 2 ?_
  rw [rounds_succ]
  go_wp2_with fail
  refine FR.out.mono ?_
  rintro r w2 ⟨rfl, hb2⟩
  have B2 := Lib.hid hb2
  have GR2 := Lib.hid (GR.out w2 hb2)
  clear hb2 FR GR
  go_wp2_with fail
  refine GR2.out.mono ?_
  rintro r w3 ⟨vp, rfl, ho3, hw3, hk3⟩
  have F3 := Lib.hid (And.intro hw3 (And.intro hk3 ho3))
  clear hw3 hk3 GR2 ho3
  obtain ⟨Y, hY⟩ : ∃ Y, Y = w3.alloc (.cells #[.int .i64 0, .int .i64 0, .int .i64 0, .int .i64 0, .int .i64 0] 23) := ⟨_, rfl⟩
  have GY : Hid (Y.heap[w3.heap.size]? = some (.cells zeroG.arr 23 (0, 0))) := Lib.hid (by rw [hY]; exact heap_alloc_new _ _)
  have BY : Hid (Below w3.heap.size w3 Y) := Lib.hid (by rw [hY]; exact (Below.refl _ _).alloc (Nat.le_refl _) _)
  obtain ⟨Z, hZ⟩ : ∃ Z, Z = Y.setRow w3.heap.size g.arr := ⟨_, rfl⟩
  have GZ : Hid (Z.heap[w3.heap.size]? = some (.cells g.arr 23 (0, 0))) := Lib.hid (by rw [hZ]; exact setRow_heap _ _ _ _ _ _ GY.out)
  have BZ : Hid (Below w3.heap.size w3 Z) := Lib.hid (by rw [hZ]; exact below_setRow BY.out (Nat.le_refl _) _)
  have SP : Hid (Calls Try.prog 84 #[vp] Z fun e w' => ∃ vr, e = .returned (.tuple #[vr, .bool true]) ∧ OwnS Z.heap.size w' vr rs ∧ Below Z.heap.size Z w') := Lib.hid (by
    refine (split_any vp p Z (F3.out.2.2.below BZ.out).bytes (by have := PLE.out; omega)).mono ?_
    rintro e w' ⟨vr, rfl, ho, hb⟩
    rw [SPL.out] at ho ⊢
    exact ⟨vr, rfl, ho, hb⟩)
  have hZ' := hZ.symm
  have hY' := hY.symm
  clear hZ hY
  go_wp2_with (refine wpList_store_row rfl 23 (.tmp 6) (.tmp 18) rfl w3.heap.size g.arr rfl rfl 23 zeroG.arr GY.out size_group rfl (arr_one _) ?_; rw [hZ'])
  refine SP.out.mono ?_
  rintro r w4 ⟨vr, rfl, ho4, hb4⟩
  have F4 := Lib.hid (And.intro ho4 hb4)
  clear ho4 hb4 SP
  have W4 : Hid (Wl B w4 d mb mp cv (rd1 ds) l pv s) := Lib.hid ((F3.out.1.below BZ.out).below F4.out.2)
  have G4 : Hid (w4.heap[w3.heap.size]? = some (.cells g.arr 23 (0, 0))) := Lib.hid (by rw [F4.out.2.block _ (lt_of_heap GZ.out)]; exact GZ.out)
  have O0 : Hid (OwnS w4.heap.size w4 (.slice none 0 0) []) := Lib.hid (World.ownsRow_nil _ _ _ _)
  have LL : Hid ((([] : List ByteArray).length + rs.length) * 16 ≤ 140737488355328) := Lib.hid (by have := RSL.out; simp; omega)
  go_wp2_with (refine app_strs rfl (.tmp 31) (.tmp 32) rfl (B := w4.heap.size) (v := .slice none 0 0) (u := vr) (ts := []) (us := rs) rfl O0.out (Nat.le_refl _) F4.out.1.strs rfl LL.out ?_; intro v5 w5 ho5 hg5; have F5 := Lib.hid (And.intro ho5 hg5); have B5 : Hid (Below w4.heap.size w4 w5) := Lib.hid ((Below.refl _ _).grown hg5 (Nat.le_refl _) (fun k hk => by simp [Value.ownBlock] at hk)); have c0 : w5.cell? ⟨w3.heap.size, 0, none⟩ = some (.int .i64 (ge : Int)) := (by rw [cell_of_row w5 _ 0 _ _ _ ((B5.out.block _ (lt_of_heap G4.out)).trans G4.out)]; exact GA.out.1); have c3 : w5.cell? ⟨w3.heap.size, 3, none⟩ = some (.int .i64 1) := (by rw [cell_of_row w5 _ 3 _ _ _ ((B5.out.block _ (lt_of_heap G4.out)).trans G4.out)]; exact GA.out.2); clear ho5 hg5)
  have W5 : Hid (Wl B w5 d mb mp cv (rd1 ds) l pv s) := Lib.hid (W4.out.below B5.out)
  refine (AH.out w5 W5.out).mono ?_
  rintro r w6 ⟨rfl, hb6⟩
  have B6 := Lib.hid hb6
  have W6 : Hid (Wl B w6 d mb mp cv (rd1 ds) l pv s) := Lib.hid (W5.out.below hb6)
  have p6 : w6.cell? ⟨l, 6, none⟩ = some (.int .i64 (s.es : Int)) := W6.out.lg.cell 6
  have p7 : w6.cell? ⟨l, 7, none⟩ = some (.int .i64 (s.ea : Int)) := W6.out.lg.cell 7
  have f6 : w6.frozen? ⟨l, 6, none⟩ = false := W6.out.lg.free 6
  have f7 : w6.frozen? ⟨l, 7, none⟩ = false := W6.out.lg.free 7
  obtain ⟨V, hV⟩ : ∃ V, V = (w6.setCell ⟨l, 6, none⟩ (.int .i64 (es : Int))).setCell ⟨l, 7, none⟩ (.int .i64 (ea : Int)) := ⟨_, rfl⟩
  have KV : Hid (Kept (fun k => k = l) w6 V) := Lib.hid (by rw [hV]; exact (kept_set (F := fun k => k = l) w6 _ _ rfl).trans (kept_set (F := fun k => k = l) _ _ _ rfl) (fun _ _ h => h))
  have WV : Hid (Wl B V d mb mp cv (rd1 ds) l pv s.step) := Lib.hid (by
    refine ⟨W6.out.dv.kept KV.out (fun k hk e => W6.out.l_ne (e ▸ hk)), ⟨?_, W6.out.lg.pay.kept KV.out (fun k hk e => W6.out.lg.ne k hk e), W6.out.lg.b, SF.out⟩⟩
    rw [SS.out, hV, heap_setCell_same _ _ _ _ _ _ (heap_setCell_same _ _ 6 _ _ (.int .i64 (es : Int)) W6.out.lg.self)]
    rfl)
  have hV' := hV.symm
  clear hV hb6 AH c0 c3
  go_wp2_with fail
  rw [rounds_succ]
  go_wp2_with fail
  refine (FR2.out V WV.out).mono ?_
  rintro r w7 ⟨rfl, hb7⟩
  have B7 := Lib.hid hb7
  have W7 : Hid (Wl B w7 d mb mp cv (rd1 ds) l pv s.step) := Lib.hid (WV.out.below hb7)
  clear hb7 FR2
  go_wp2_with fail
  refine (NX.out w7 W7.out).mono ?_
  rintro r w8 ⟨rfl, hw8, hk8⟩
  have F8 := Lib.hid (And.intro hw8 hk8)
  clear hw8 hk8 NX
  obtain ⟨Y2, hY2⟩ : ∃ Y, Y = w8.alloc (.cells #[.int .i64 0, .int .i64 0, .int .i64 0, .int .i64 0, .int .i64 0] 23) := ⟨_, rfl⟩
  have GY2 : Hid (Y2.heap[w8.heap.size]? = some (.cells zeroG.arr 23 (0, 0))) := Lib.hid (by rw [hY2]; exact heap_alloc_new _ _)
  have BY2 : Hid (Below w8.heap.size w8 Y2) := Lib.hid (by rw [hY2]; exact (Below.refl _ _).alloc (Nat.le_refl _) _)
  obtain ⟨Z2, hZ2⟩ : ∃ Z, Z = Y2.setRow w8.heap.size zeroG.arr := ⟨_, rfl⟩
  have BZ2 : Hid (Below w8.heap.size w8 Z2) := Lib.hid (by rw [hZ2]; exact below_setRow BY2.out (Nat.le_refl _) _)
  have hZ2' := hZ2.symm
  have hY2' := hY2.symm
  clear hZ2 hY2
  go_wp2_with (refine wpList_store_row rfl 23 (.tmp 6) (.tmp 18) rfl w8.heap.size zeroG.arr rfl rfl 23 zeroG.arr GY2.out size_group rfl (arr_one _) ?_; rw [hZ2'])
  refine (SPN.out Z2).mono ?_
  rintro r w9 ⟨vr9, rfl, hb9⟩
  have B9 := Lib.hid hb9
  clear hb9 SPN
  go_wp2_with fail
  go_ret2
  have b89 : Below w8.heap.size w8 w9 := BZ2.out.trans (B9.out.mono BZ2.out.size)
  have o5 : OwnS w4.heap.size w5 v5 rs := by have q := F5.out.1; simpa using q
  have lw4 : l < w4.heap.size := lt_of_heap W4.out.lg.self
  have o6 : OwnS w4.heap.size w6 v5 rs := o5.below B6.out
  have oV : OwnS w4.heap.size V v5 rs := row_kept o6 KV.out (fun k hk e => by have := (World.ownsRow.lt o6 k hk).1; omega)
  have o7 : OwnS w4.heap.size w7 v5 rs := oV.below B7.out
  have d4 : d < w4.heap.size := (W4.out.dv.foot_lt d (.inl rfl)).2
  have o8 : OwnS w4.heap.size w8 v5 rs := row_kept o7 F8.out.2 (fun k hk e => by have := (World.ownsRow.lt o7 k hk).1; omega)
  have o9 : OwnS w4.heap.size w9 v5 rs := o8.below b89
  have s04 : w.heap.size ≤ w4.heap.size := by
    have q1 := B2.out.size; have q2 := F3.out.2.1.size; have q3 := BZ.out.size; have q4 := F4.out.2.size
    omega
  refine ⟨v5, rfl, ?_, F8.out.1.below b89, ?_⟩
  · obtain ⟨h1, h2 | ⟨gq, cap, cur, hv, hB, hr⟩⟩ := o9
    · exact ⟨h1, .inl h2⟩
    · exact ⟨h1, .inr ⟨gq, cap, cur, hv, Nat.le_trans s04 hB, hr⟩⟩
  · have k1 : Kept (fun k => k = d ∨ k = l) w w2 := Below.kept B2.out _
    have k2 := k1.trans F3.out.2.1 (fun _ _ q => .inl q)
    have k3 := k2.trans (Below.kept BZ.out (fun _ => False)) (fun _ _ q => q.elim)
    have k4 := k3.trans (Below.kept F4.out.2 (fun _ => False)) (fun _ _ q => q.elim)
    have k5 := k4.trans (Below.kept B5.out (fun _ => False)) (fun _ _ q => q.elim)
    have k6 := k5.trans (Below.kept B6.out (fun _ => False)) (fun _ _ q => q.elim)
    have kV := k6.trans KV.out (fun _ _ q => .inr q)
    have k7 := kV.trans (Below.kept B7.out (fun _ => False)) (fun _ _ q => q.elim)
    have k8 := k7.trans F8.out.2 (fun _ _ q => .inl q)
    exact k8.trans (Below.kept b89 (fun _ => False)) (fun _ _ q => q.elim)
end Go.Proofs.Ytfljbipnjfciaab
