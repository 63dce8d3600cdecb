/-
  Sync.
-/
import Derived.Test.YtfljbipnjfciaabWaK
namespace Go.Proofs.Ytfljbipnjfciaab
open Go.RowKit Go.Maps
variable {B : Nat} {w W W' : World} {d mb mp : Nat} {cv : Value} {ds : DS} {l : Nat} {pv : Value} {s : LS}
def LS.next (s : LS) : LS := { s with es := s.es + s.T, ea := (s.ea + s.T) % s.n, pay := [], pend := 0 }
def sync (s : LS) (ds : DS) : DS × LS × Int := if s.dead = true then (ds, s, 6) else if (brD s s.T ds).2 ≠ 0 then ((brD s s.T ds).1, { s with dead := true }, (brD s s.T ds).2) else ((brD s s.T ds).1, s.next, 0)
theorem next_fit (h : LFit s) : LFit s.next := by
  obtain ⟨q1, q2, q3, q4, q5, q6, q7, q8, q9, q10, q11, q12, q13, q14⟩ := h
  have ht : s.T = (s.pay.length + 463) / 464 := rfl
  have h1 : s.T ≤ s.n - (s.es - s.fs) := by omega
  have h2 : s.T ≤ 1152921504606846977 - s.es := by omega
  refine ⟨q1, q2, q3, q4, q5, q6, ?_, ?_, ?_, q10, ?_, ?_, ?_, ?_⟩
  · show s.fs ≤ s.es + s.T
    omega
  · show s.es + s.T ≤ s.fs + s.n
    omega
  · show s.es + s.T ≤ _
    omega
  · show (s.ea + s.T) % s.n = (s.fa + (s.es + s.T - s.fs)) % s.n
    rw [q11, Nat.mod_add_mod]
    congr 1
    omega
  · show ([] : List UInt8).length ≤ _
    simp
  · show ([] : List UInt8).length ≤ _
    simp
  · show 0 ≤ _
    simp
set_option maxHeartbeats 400000 in
theorem drop_raw (h : w.heap[l]? = some (.cells (logCells d pv s) 102 (0, 0))) : Calls Try.prog 47 #[.pointer (some ⟨l, 0, none⟩)] w fun e w' => e = .returned (.tuple #[]) ∧ w'.heap[l]? = some (.cells (logCells d (.slice none 0 0) { s with pay := [], pend := 0 }) 102 (0, 0)) ∧ Kept (fun k => k = l) w w' := by
  have p8 : ∃ u, w.cell? ⟨l, 8, none⟩ = some u := ⟨_, cell_of_row w l 8 _ _ _ h⟩
  obtain ⟨u8, p8⟩ := p8
  have f8 : w.frozen? ⟨l, 8, none⟩ = false := frozen_of_row w l 8 _ _ h
  obtain ⟨X, hX⟩ : ∃ X, X = w.setCell ⟨l, 8, none⟩ (.slice none 0 0) := ⟨_, rfl⟩
  have gX : X.heap[l]? = some (.cells (logCells d (.slice none 0 0) s) 102 (0, 0)) := by rw [hX, heap_setCell_same _ _ _ _ _ _ h]; rfl
  have p9 : X.cell? ⟨l, 9, none⟩ = some (.int .i64 (s.pend : Int)) := by rw [cell_of_row _ _ _ _ _ _ gX]; rfl
  have f9 : X.frozen? ⟨l, 9, none⟩ = false := frozen_of_row _ _ _ _ _ gX
  have GX := Lib.hid gX
  have KX : Hid (Kept (fun k => k = l) w X) := Lib.hid (by rw [hX]; exact kept_set w _ _ rfl)
  have hX' := hX.symm
  clear h gX hX
  go_enter Try.func47, Try.ntmps47
  go_wp2_with fail
  first | go_end0 | refine bodyPost_ret (results_none rfl _ _ _) rfl ?_
  refine ⟨rfl, ?_, KX.out.trans (kept_set (F := fun k => k = l) X _ _ rfl) (fun _ _ h => h)⟩
  rw [heap_setCell_same _ _ _ _ _ _ GX.out]
  rfl
set_option maxRecDepth 100000 in
set_option maxHeartbeats 2000000 in
theorem sync_any (h : Wl B w d mb mp cv ds l pv s) (hws : ds.ws + 600 < 4611686018427387904) (hcl : ds.cache.length + 600 < 137438953472) : Calls Try.prog 25 #[.pointer (some ⟨l, 0, none⟩)] w fun e w' => ∃ cv' pv', e = .returned (.int .i64 (sync s ds).2.2) ∧ Wl B w' d mb mp cv' (sync s ds).1 l pv' (sync s ds).2.1 ∧ Kept (fun k => Foot d mb mp cv k ∨ k = l) w w' ∧ At cv cv' w ∧ (pv' = pv ∨ pv' = .slice none 0 0) := by
  have p10 : w.cell? ⟨l, 10, none⟩ = some (.bool s.dead) := h.lg.cell 10
  have H := Lib.hid h
  cases hd : s.dead with
  | true =>
    have E : Hid (sync s ds = (ds, s, 6)) := Lib.hid (by unfold sync; rw [if_pos hd])
    rw [hd] at p10
    clear h hd
    go_enter Try.func25, Try.ntmps25
    go_wp2_with fail
    go_ret
    rw [E.out]
    exact ⟨cv, pv, rfl, H.out, Kept.refl _ _, At.refl _ _, .inl rfl⟩
  | false =>
    rw [hd] at p10
    have E : Hid (sync s ds = if (brD s s.T ds).2 ≠ 0 then ((brD s s.T ds).1, { s with dead := true }, (brD s s.T ds).2) else ((brD s s.T ds).1, s.next, 0)) := Lib.hid (by unfold sync; rw [if_neg (by rw [hd]; simp)])
    have BR := Lib.hid (bring_any h hws hcl)
    obtain ⟨X, hX⟩ : ∃ X, X = brD s s.T ds := ⟨_, rfl⟩
    rw [← hX] at BR E
    have lne := Lib.hid h.l_ne
    clear h hd hX
    go_enter Try.func25, Try.ntmps25
    go_wp2_with fail
    refine BR.out.mono ?_
    rintro r w2 ⟨c2, rfl, hw2, hk2, ha2⟩
    have F2 := Lib.hid (And.intro hw2 (And.intro hk2 ha2))
    have l2 : ¬ Foot d mb mp c2 l := hw2.l_ne
    have L2 := Lib.hid l2
    clear hw2 hk2 ha2 BR p10 l2
    by_cases hx0 : X.2 = 0
    · have b0 : (X.2 != 0) = false := by rw [hx0]; rfl
      have h2 := F2.out.1.lg
      obtain ⟨a, cap, hpv, hlc, hcm⟩ := row_slice h2.pay
      unfold maxLen at hcm
      obtain ⟨pl, hpl⟩ : ∃ pl, pl = s.pay.length := ⟨_, rfl⟩
      have p8 : w2.cell? ⟨l, 8, none⟩ = some (.slice a pl cap) := by rw [h2.cell 8, hpl, ← hpv]; rfl
      have hp2 : pl ≤ 237568 := by rw [hpl]; have := h2.fit.pl; have := h2.fit.hi; omega
      obtain ⟨T, hT⟩ : ∃ T, T = s.T := ⟨_, rfl⟩
      have hT2 : T = (pl + 463) / 464 := by rw [hT, hpl]; rfl
      have BO : Hid (Calls Try.prog 64 #[.int .i64 (pl : Int)] w2 fun e w' => e = .returned (.int .i64 (T : Int)) ∧ w' = w2) := Lib.hid (by rw [hT2]; exact blocksOf_any pl (by omega) w2)
      have AH := Lib.hid (ahead_any h2 T (by omega))
      obtain ⟨es, hes⟩ : ∃ es, es = s.es + T := ⟨_, rfl⟩
      obtain ⟨ea, hea⟩ : ∃ ea, ea = (s.ea + T) % s.n := ⟨_, rfl⟩
      rw [← hes, ← hea] at AH
      have NX : Hid (s.next = { s with es := es, ea := ea, pay := [], pend := 0 }) := Lib.hid (by unfold LS.next; rw [hes, hea, hT])
      have NF : Hid (LFit s.next) := Lib.hid (next_fit h2.fit)
      have hcm' : cap ≤ 9223372036854775807 := hcm
      clear h2 hpv hlc hpl hT hT2 hes hea hcm
      go_wp2_with fail
      refine BO.out.mono ?_
      rintro r w3 ⟨rfl, rfl⟩
      go_wp2_with fail
      refine AH.out.mono ?_
      rintro r w4 ⟨rfl, hb4⟩
      have L4 := Lib.hid (F2.out.1.below hb4)
      have p6 : w4.cell? ⟨l, 6, none⟩ = some (.int .i64 (s.es : Int)) := L4.out.lg.cell 6
      have p7 : w4.cell? ⟨l, 7, none⟩ = some (.int .i64 (s.ea : Int)) := L4.out.lg.cell 7
      have f6 : w4.frozen? ⟨l, 6, none⟩ = false := L4.out.lg.free 6
      have f7 : w4.frozen? ⟨l, 7, none⟩ = false := L4.out.lg.free 7
      obtain ⟨W5, hW5⟩ : ∃ W5, W5 = (w4.setCell ⟨l, 6, none⟩ (.int .i64 (es : Int))).setCell ⟨l, 7, none⟩ (.int .i64 (ea : Int)) := ⟨_, rfl⟩
      have K5 : Hid (Kept (fun k => k = l) w4 W5) := Lib.hid (by rw [hW5]; exact (kept_set (F := fun k => k = l) w4 _ _ rfl).trans (kept_set (F := fun k => k = l) _ _ _ rfl) (fun _ _ h => h))
      have H5 : Hid (W5.heap[l]? = some (.cells (logCells d pv { s with es := es, ea := ea }) 102 (0, 0))) := Lib.hid (by
        rw [hW5, heap_setCell_same _ _ _ _ _ _ (heap_setCell_same _ _ 6 _ _ (.int .i64 (es : Int)) L4.out.lg.self)]
        rfl)
      have B4 := Lib.hid hb4
      have hW5' := hW5.symm
      clear hW5 hb4 AH BO
      have DR := Lib.hid (drop_raw H5.out)
      go_wp2_with fail
      refine DR.out.mono ?_
      rintro r w6 ⟨rfl, hs6, hk6⟩
      have F6 := Lib.hid (And.intro hs6 hk6)
      clear hs6 hk6 DR
      go_wp2_with fail
      go_ret
      rw [E.out, if_neg (fun h => h hx0)]
      have K46 : Kept (fun k => k = l) w4 w6 := K5.out.trans F6.out.2 (fun _ _ h => h)
      refine ⟨c2, .slice none 0 0, rfl, ⟨L4.out.dv.kept K46 (fun k hk e => L2.out (e ▸ hk)), ⟨?_, World.ownsRow_nil _ _ _ _, L4.out.lg.b, NF.out⟩⟩, ?_, F2.out.2.2, .inr rfl⟩
      · rw [NX.out]
        exact F6.out.1
      · exact ((F2.out.2.1.mono (G := fun k => Foot d mb mp cv k ∨ k = l) (fun _ _ q => .inl q)).trans (Below.kept B4.out (fun k => k = l)) (fun _ _ q => .inr q)).trans K46 (fun _ _ q => .inr q)
    · have b0 : (X.2 != 0) = true := by rw [bne_iff_ne]; exact hx0
      have p10 : w2.cell? ⟨l, 10, none⟩ = some (.bool s.dead) := F2.out.1.lg.cell 10
      have f10 : w2.frozen? ⟨l, 10, none⟩ = false := F2.out.1.lg.free 10
      go_wp2_with fail
      go_ret
      rw [E.out, if_pos hx0]
      have K3 : Kept (fun k => k = l) w2 (w2.setCell ⟨l, 10, none⟩ (.bool true)) := kept_set _ _ _ rfl
      refine ⟨c2, pv, rfl, ⟨F2.out.1.dv.kept K3 (fun k hk e => L2.out (e ▸ hk)), ⟨?_, F2.out.1.lg.pay.kept K3 (fun k hk e => F2.out.1.lg.ne k hk e), F2.out.1.lg.b, ?_⟩⟩, (F2.out.2.1.mono (G := fun k => Foot d mb mp cv k ∨ k = l) (fun _ _ q => .inl q)).trans K3 (fun _ _ q => .inr q), F2.out.2.2, .inl rfl⟩
      · rw [heap_setCell_same _ _ _ _ _ _ F2.out.1.lg.self]
        rfl
      · obtain ⟨q1, q2, q3, q4, q5, q6, q7, q8, q9, q10, q11, q12, q13, q14⟩ := F2.out.1.lg.fit
        exact ⟨q1, q2, q3, q4, q5, q6, q7, q8, q9, q10, q11, q12, q13, q14⟩
end Go.Proofs.Ytfljbipnjfciaab
