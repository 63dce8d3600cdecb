/-
  THE WALK of PackBack.
-/
import Derived.Test.YtmabmmmiljkeeaaBack
namespace Go.Proofs.Ytmabmmmiljkeeaa
open Go.RowKit

theorem Read.below {B g : Nat} {s : RS} {w w' : World} (h : Read g s w w') (hB : B ≤ w.heap.size) (hg : B ≤ g) : Below B w w' := h.2.below hB (fun x hx => by rw [hx]; exact hg)
theorem drop_cons {α : Type} (l : List α) (k : Nat) (d : α) (h : k < l.length) : l.drop k = l.getD k d :: l.drop (k + 1) := by
  rw [List.drop_eq_getElem_cons h]; simp [List.getD, h]

theorem take_eq {kk k mm most : Int} (hk : kk = k) (hmm : mm = most) (g : Nat) (s : RS) (x : V) (s' : RS) (w : World) (ht : s.take k most = (x, s')) (h1 : -9223372036854775808 ≤ most) (h2 : most < 9223372036854775808) (H : RAt w g s) :
    Calls Try.prog 19 #[.pointer (some ⟨g, 0, none⟩), .int .i64 kk, .int .i64 mm] w fun e w' => e = .returned x.agg ∧ Read g s' w w' := by
  rw [hk, hmm]
  have := take_any g k most s w h1 h2 H
  rw [ht] at this; exact this
theorem most_bd (x : V) (h : x.fits) : -9223372036854775808 ≤ x.most ∧ x.most < 9223372036854775808 := by
  obtain ⟨_, _, ⟨i0, i1⟩, hs⟩ := h
  unfold V.most; split <;> omega
theorem val_cells (w : World) (x : V) : (w.alloc (.cells #[.int .i64 x.k, .int .u64 x.u, .int .i64 x.i, .string x.s] 43)).cell? ⟨w.heap.size, 0, none⟩ = some (.int .i64 x.k) ∧
    (w.alloc (.cells #[.int .i64 x.k, .int .u64 x.u, .int .i64 x.i, .string x.s] 43)).cell? ⟨w.heap.size, 1, none⟩ = some (.int .u64 x.u) ∧
    (w.alloc (.cells #[.int .i64 x.k, .int .u64 x.u, .int .i64 x.i, .string x.s] 43)).cell? ⟨w.heap.size, 2, none⟩ = some (.int .i64 x.i) ∧
    (w.alloc (.cells #[.int .i64 x.k, .int .u64 x.u, .int .i64 x.i, .string x.s] 43)).cell? ⟨w.heap.size, 3, none⟩ = some (.string x.s) := by
  refine ⟨?_, ?_, ?_, ?_⟩ <;> (rw [World.cell?_alloc_new]; rfl)
theorem RAt.drewN {w : World} {g : Nat} {s : RS} (h : RAt w g s) (n : Nat) : RAt (w.drewN n) g s := h.kept (drewN_kept (fun _ => False) w n) id (fun _ _ _ _ => id)

set_option maxHeartbeats 4000000 in
set_option maxRecDepth 100000 in
theorem packBack_walk (v : Value) (xs : List V) (u : Value) (m : List UInt8) (w : World) (hv : Vals w v xs) (hx : ∀ x ∈ xs, x.fits) (hu : Bytes w u m) (hm : m.length ≤ 140737488351232) :
    Calls Try.prog 4 #[v, u] w fun e w' => e = .returned (.bool true) ∧ Below w.heap.size w w' := by
  obtain ⟨a, cap, rfl, hlc, hcm⟩ := hv.len
  obtain ⟨ab, capb, rfl, hbc, hbm⟩ := hu.len
  unfold maxLen at hcm hbm
  have Vv : Aside (Vals w (.slice a xs.length cap) xs ∧ (∀ x ∈ xs, x.fits) ∧ Bytes w (.slice ab m.length capb) m) := ⟨hv, hx, hu⟩
  clear hv hx hu
  go_enter Try.func4, Try.ntmps4
  go_wp2_with fail
  refine (fixed_any w).mono ?_
  rintro e w1 ⟨rfl, hb⟩
  have B1 : Aside (Below w.heap.size w w1) := hb
  clear hb
  go_wp2_with fail
  refine (small_any _ xs w1 (Vv.out.1.below B1.out) Vv.out.2.1).mono ?_
  rintro e w2 ⟨v2, rfl, ho, hb⟩
  obtain ⟨ys, hys⟩ : ∃ ys, ys = sm xs 0 := ⟨_, rfl⟩
  rw [← hys] at ho
  have Y : Aside ((∀ x ∈ ys, x.fits ∧ x.ok) ∧ (∀ x ∈ ys, x.norm) ∧ (encs ys).length ≤ 1048576) := by
    rw [hys]
    have h := sm_len xs 0 Vv.out.2.1 (by omega)
    exact ⟨sm_all xs 0 Vv.out.2.1, sm_norm xs 0, by omega⟩
  have yl : ys.length ≤ 104857 := by
    have h := sm_len xs 0 Vv.out.2.1 (by omega)
    rw [← hys] at h; omega
  clear hys
  obtain ⟨a2, cap2, rfl, hc2, hm2⟩ := ho.vals.len
  unfold maxLen at hm2
  have B2 : Aside (Below w.heap.size w w2 ∧ OwnV w1.heap.size w2 (.slice a2 ys.length cap2) ys) := ⟨B1.out.trans (hb.mono B1.out.size), ho⟩
  clear ho hb
  go_wp2_with fail
  refine (written_any _ ys w2 B2.out.2.vals (fun x hx => (Y.out.1 x hx).1)).mono ?_
  rintro e w3 ⟨v3, rfl, ho, hb⟩
  have ew := wrt_ok ys (fun x hx => (Y.out.1 x hx).2) Y.out.2.2
  rw [ew] at ho ⊢
  have B3 : Aside (Below w.heap.size w w3 ∧ Vals w3 (.slice a2 ys.length cap2) ys ∧ Bytes w3 v3 (encs ys)) := ⟨B2.out.1.trans (hb.mono B2.out.1.size), B2.out.2.vals.below hb, ho.bytes⟩
  clear ho hb ew
  go_wp2_with fail
  refine (own_any v3 (encs ys) w3 B3.out.2.2 (by have := Y.out.2.2; omega)).mono ?_
  rintro e w4 ⟨v4, rfl, ho, hb⟩
  have B4 : Aside (Below w.heap.size w w4 ∧ Vals w4 (.slice a2 ys.length cap2) ys) := ⟨B3.out.1.trans (hb.mono B3.out.1.size), B3.out.2.1.below hb⟩
  have O4 : Hid (Own w3.heap.size w4 v4 (encs ys)) := ho
  have S4 : Hid (w3.heap.size ≤ w4.heap.size) := hb.size
  have S4b : Aside (Below w3.heap.size w3 w4) := hb
  have M4 : Hid (Bytes w4 (.slice ab m.length capb) m) := Vv.out.2.2.below B4.out.1
  have L4 : Aside ((encs ys).length ≤ 1048576) := Y.out.2.2
  clear ho hb
  go_wp2_with (at_builtin; refine app_wide (v := v4) (u := .slice ab m.length capb) rfl _ _ rfl rfl O4.out S4.out rfl M4.out ?hl1 ?_)
  case hl1 => have := L4.out; omega
  intro v5 w5 h1 h2
  have b45 : Below w3.heap.size w4 w5 := grown_below h2 O4.out S4.out
  have B5 : Aside (Below w.heap.size w w5 ∧ Vals w5 (.slice a2 ys.length cap2) ys ∧ Bytes w5 v5 (encs ys ++ m)) := by
    refine ⟨B4.out.1.trans (b45.mono B3.out.1.size), ?_, h1.bytes⟩
    have hk : Below w3.heap.size w3 w5 := (show Below w3.heap.size w3 w4 from ?_).trans b45
    · exact B3.out.2.1.below hk
    · exact S4b.out
  clear h1 h2 O4 S4 M4 b45
  go_wp2_with fail
  refine (newReader_any v5 (encs ys ++ m) w5 B5.out.2.2 (by have := L4.out; rw [List.length_append]; omega)).mono ?_
  rintro e w6 ⟨g, rfl, hr, hg, hb⟩
  have B6 : Aside (Below w.heap.size w w6 ∧ Vals w6 (.slice a2 ys.length cap2) ys ∧ RAt w6 g ⟨encs ys ++ m, 0⟩ ∧ w5.heap.size ≤ g ∧ w5.heap.size ≤ w6.heap.size ∧ Vals w5 (.slice a2 ys.length cap2) ys ∧ Below w5.heap.size w5 w6 ∧ Below w.heap.size w w5) :=
    ⟨B5.out.1.trans (hb.mono B5.out.1.size), B5.out.2.1.below hb, hr, hg, hb.size, B5.out.2.1, hb, B5.out.1⟩
  clear hr hg hb B1 B2 B3 B4 B5 L4 S4b
  go_wp2_with fail
  go_loopg [8] ys.length (fun g0 si wr => ∃ (k : Nat), k ≤ ys.length ∧ g0 = ys.length - k ∧ si = .int .i64 k ∧ RAt wr g ⟨encs (ys.drop k) ++ m, 0⟩ ∧ Below w5.heap.size w5 wr)
  case atStart => exact ⟨0, Nat.zero_le _, rfl, rfl, B6.out.2.2.1, B6.out.2.2.2.2.2.2.1⟩
  case round =>
    obtain ⟨k, hk, hg, rfl, hr, hb⟩ := hrel
    have R : Aside (gk = ys.length - k ∧ RAt wr g ⟨encs (ys.drop k) ++ m, 0⟩ ∧ Below w5.heap.size w5 wr) := ⟨hg, hr, hb⟩
    clear hg hr hb
    by_cases hlt : k < ys.length
    · obtain ⟨b, off, rfl, p0, p1, p2, p3⟩ := (B6.out.2.2.2.2.2.1.below R.out.2.2).at k hlt
      have dr := drop_cons ys k ⟨0, 0, 0, ⟨#[]⟩⟩ hlt
      obtain ⟨x, hxx⟩ : ∃ x, x = ys.getD k ⟨0, 0, 0, ⟨#[]⟩⟩ := ⟨_, rfl⟩
      rw [← hxx] at p0 p1 p2 p3 dr
      have hmem : x ∈ ys := by rw [hxx]; simp [List.getD, hlt]
      have xf := (Y.out.1 x hmem).1
      have xs0 := xf.2.2.2
      have xi := xf.2.2.1
      have X : Aside (ys.drop k = x :: ys.drop (k + 1) ∧ x.fits ∧ x.norm ∧ encs (ys.drop k) ++ m = x.enc ++ (encs (ys.drop (k + 1)) ++ m)) := ⟨dr, xf, Y.out.2.1 x hmem, by rw [dr, encs_cons, List.append_assoc]⟩
      clear hxx hmem dr xf
      have tb := take_back x (encs (ys.drop (k + 1)) ++ m) X.out.2.1 X.out.2.2.1
      have TB : Aside (RS.take ⟨x.enc ++ (encs (ys.drop (k + 1)) ++ m), 0⟩ x.k x.most = (x, ⟨encs (ys.drop (k + 1)) ++ m, 0⟩)) := tb
      have hr : Aside (RAt wr g ⟨x.enc ++ (encs (ys.drop (k + 1)) ++ m), 0⟩) := by have := R.out.2.1; rw [X.out.2.2.2] at this; exact this
      clear tb
      by_cases h5 : x.k = 5
      all_goals
        have hmo : Aside (x.most = if x.k = 5 then x.i else x.s.size) := rfl
        go_wp2_with fail
        refine (take_eq (k := x.k) (most := x.most) ?hk ?hmm g _ x _ wr TB.out (most_bd x X.out.2.1).1 (most_bd x X.out.2.1).2 hr.out).mono ?_
        case hk => first | rfl | exact h5.symm
        case hmm => rw [hmo.out]; first | rw [if_pos h5] | rw [if_neg h5]
        rintro e w7 ⟨rfl, hrd⟩
        have b7 : Below w5.heap.size wr w7 := hrd.below R.out.2.2.size B6.out.2.2.2.1
        have b57 : Below w5.heap.size w5 w7 := R.out.2.2.trans b7
        have b8 : Below w7.heap.size w7 (w7.alloc (.cells #[.int .i64 x.k, .int .u64 x.u, .int .i64 x.i, .string x.s] 43)) := (Below.refl _ _).alloc (Nat.le_refl _) _
        have b58 : Below w5.heap.size w5 (w7.alloc (.cells #[.int .i64 x.k, .int .u64 x.u, .int .i64 x.i, .string x.s] 43)) := b57.trans (b8.mono b57.size)
        obtain ⟨q0, q1, q2, q3⟩ := val_cells w7 x
        have rr := hrd.1.below b8
        have vv := B6.out.2.2.2.2.2.1.below b58
        unfold V.agg
        clear p0 p1 p2 p3 b7 h5
        go_wp2_with fail
        obtain ⟨w8, hw8⟩ : ∃ w8, w8 = w7.alloc (.cells #[.int .i64 x.k, .int .u64 x.u, .int .i64 x.i, .string x.s] 43) := ⟨_, rfl⟩
        rw [← hw8] at q0 q1 q2 q3 rr vv b58 ⊢
        have R8 : Aside (RAt w8 g ⟨encs (ys.drop (k + 1)) ++ m, 0⟩ ∧ Below w5.heap.size w5 w8 ∧ w7.heap.size ≤ w8.heap.size) := ⟨rr, b58, by rw [hw8]; simp⟩
        obtain ⟨b', off', e', p0, p1, p2, p3⟩ := vv.at k hlt
        simp only [Option.some.injEq, Addr.mk.injEq, and_true] at e'
        obtain ⟨rfl, rfl⟩ := e'
        have gx : ys.getD k ⟨0, 0, 0, ⟨#[]⟩⟩ = x := by
          have := X.out.1
          rw [drop_cons ys k ⟨0, 0, 0, ⟨#[]⟩⟩ hlt] at this
          exact (List.cons.inj this).1
        rw [gx] at p0 p1 p2 p3
        clear hw8 rr vv b58 b57 b8 hrd gx
        go_quiet ((go_at_call 20; refine Calls.quiet_of_same (rErr_any g _ _ (R8.out.1.drewN _))))
        go_wp2_with fail
        go_roundg (ys.length - (k + 1))
        case measure => have := R.out.1; omega
        case rel => exact ⟨k + 1, by omega, rfl, by go_num, R8.out.1.drewN _, R8.out.2.1.trans ⟨rfl, rfl, rfl, Nat.le_refl _, fun _ _ => rfl⟩⟩
    · have R2 : Aside (RAt wr g ⟨m, 0⟩ ∧ Below w5.heap.size w5 wr) := by
        have := R.out.2
        rw [List.drop_eq_nil_of_le (by omega), encs_nil, List.nil_append] at this; exact this
      clear R
      go_wp2_with fail
      refine (rLeft_any g _ wr R2.out.1).mono ?_
      rintro e wr ⟨rfl, rfl⟩
      go_wp2_with fail
      refine (rEnd_any g _ wr R2.out.1).mono ?_
      rintro e w9 ⟨rfl, hrd⟩
      have B9 : Aside (Below w.heap.size w w9) := (B6.out.2.2.2.2.2.2.2.trans (R2.out.2.mono B6.out.2.2.2.2.2.2.2.size)).trans ((hrd.below R2.out.2.size B6.out.2.2.2.1).mono B6.out.2.2.2.2.2.2.2.size)
      clear hrd
      by_cases hm0 : m.length = 0
      · have ef : RS.fin ⟨m, 0⟩ = 0 := by unfold RS.fin; rw [if_pos rfl, if_pos hm0]
        rw [ef]
        have hm0' : (m.length : Int) = 0 := by omega
        go_wp2_with fail
        go_ret
        exact ⟨rfl, B9.out⟩
      · have ef : RS.fin ⟨m, 0⟩ = 22 := by unfold RS.fin; rw [if_pos rfl, if_neg hm0]
        rw [ef]
        have hm0' : ((m.length : Int) == 0) = false := by rw [beq_eq_false_iff_ne]; omega
        have hm1 : (0 : Int) < (m.length : Int) := by omega
        go_wp2_with fail
        go_ret
        exact ⟨rfl, B9.out⟩
end Go.Proofs.Ytmabmmmiljkeeaa
