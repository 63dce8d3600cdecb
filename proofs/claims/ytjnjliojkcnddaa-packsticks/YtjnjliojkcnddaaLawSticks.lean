/-
  THE WALK of PackSticks.
-/
import Derived.Test.YtjnjliojkcnddaaLawBack
namespace Go.Proofs.Ytjnjliojkcnddaa
open Go.RowKit

theorem WAt.apartV {B B' : Nat} {w : World} {g : Nat} {v : Value} {s : WS} {vy : Value} {ys : List V} (h : WAt B w g v s) (H : OwnV B' w vy ys) : ∀ k, vy.ownBlock = some k → ¬ WF g v k := by
  intro k hk hf
  obtain ⟨_, ⟨hv, _⟩ | ⟨g', cap, cur, hv, hB, hg', _⟩⟩ := H
  · subst hv; simp [Value.ownBlock] at hk
  · subst hv
    simp only [Value.ownBlock, Option.some.injEq] at hk
    subst hk
    rcases hf with rfl | hf
    · have := h.2.1; rw [hg'] at this; simp at this
    · obtain ⟨_, ⟨hv, _⟩ | ⟨g2, cap2, cur2, hv, _, hg2, _⟩⟩ := h.2.2.1
      · subst hv; simp [Value.ownBlock] at hf
      · subst hv
        simp only [Value.ownBlock, Option.some.injEq] at hf
        rw [← hf, hg'] at hg2
        simp at hg2
theorem Vals.sub {w : World} {a : Option Addr} {n cap : Nat} {xs : List V} (H : Vals w (.slice a n cap) xs) (k : Nat) (hk : k < xs.length) :
    ∃ b off, a = some ⟨b, off, none⟩ ∧ ∀ c, 1 ≤ c → c ≤ maxLen → Vals w (.slice (some ⟨b, off + k * 4, none⟩) 1 c) [xs.getD k ⟨0, 0, 0, ⟨#[]⟩⟩] := by
  obtain ⟨a', cap', e', _, _, _, hc⟩ := H
  simp only [Value.slice.injEq] at e'
  obtain ⟨rfl, rfl, rfl⟩ := e'
  obtain ⟨b, off, ea, h⟩ := hc k hk
  refine ⟨b, off, ea, fun c h1 h2 => ⟨_, c, rfl, h1, h2, fun h => by simp at h, fun j hj => ⟨b, off + k * 4, rfl, fun i y hy => ?_⟩⟩⟩
  have hj' : j < 1 := hj
  obtain rfl : j = 0 := by omega
  have := h i y (by simpa using hy)
  simpa using this

theorem lay_fits (s : WS) (f : List UInt8) (he : s.e = 0) (h : s.l.length + f.length ≤ s.lim) : s.lay f = { s with l := s.l ++ f } := by unfold WS.lay; rw [if_pos he, if_pos h]
theorem lay_long (s : WS) (f : List UInt8) (he : s.e = 0) (h : ¬ s.l.length + f.length ≤ s.lim) : s.lay f = { s with e := 23 } := by unfold WS.lay; rw [if_pos he, if_neg h]
theorem lay_dead (s : WS) (f : List UInt8) (he : ¬ s.e = 0) : s.lay f = s := by unfold WS.lay; rw [if_neg he]

theorem sm_size (xs : List V) (n : Nat) : ∀ x ∈ sm xs n, x.s.size ≤ 1048566 := by
  induction xs generalizing n with
  | nil => intro x hx; simp [sm] at hx
  | cons y t ih =>
    intro x hx
    rw [sm] at hx
    split at hx
    · simp at hx
    · rcases List.mem_cons.1 hx with rfl | hx
      · omega
      · exact ih _ x hx
theorem Own.nolen {B : Nat} {w : World} {v : Value} {l : List UInt8} (h : Own B w v l) : ∃ a cap, v = .slice a l.length cap := by
  obtain ⟨a, cap, e, _⟩ := h.bytes.len; exact ⟨a, cap, e⟩

set_option maxHeartbeats 8000000 in
set_option maxRecDepth 100000 in
theorem packSticks_walk (n : Int) (v : Value) (xs : List V) (w : World) (hn : -9223372036854775808 ≤ n ∧ n < 9223372036854775808) (hv : Vals w v xs) (hx : ∀ x ∈ xs, x.fits) :
    Calls Try.prog 6 #[.int .i64 n, v] w fun e w' => e = .returned (.bool true) ∧ Below w.heap.size w w' := by
  obtain ⟨a, cap, rfl, hlc, hcm⟩ := hv.len
  unfold maxLen at hcm
  have Vv : Aside (Vals w (.slice a xs.length cap) xs ∧ (∀ x ∈ xs, x.fits)) := ⟨hv, hx⟩
  clear hv hx
  obtain ⟨L, hL⟩ : ∃ L : Nat, L = min n.toNat 1048576 := ⟨_, rfl⟩
  have LA : Aside (L = min n.toNat 1048576) := hL
  clear hL
  go_enter Try.func6, Try.ntmps6
  go_wp2_with fail
  refine (fixed_any w).mono ?_
  rintro e w1 ⟨rfl, hb⟩
  have B1 : Aside (Below w.heap.size w w1) := hb
  clear hb
  go_wp2_with fail
  refine (newWriter_any n w1).mono ?_
  rintro e w2 ⟨rfl, hw, _, hb⟩
  rw [← LA.out] at hw
  have B2 : Aside (Below w.heap.size w w2 ∧ WAt w1.heap.size w2 w1.heap.size (.slice none 0 0) ⟨[], L, 0⟩) := ⟨B1.out.trans (hb.mono B1.out.size), hw⟩
  clear hw hb
  go_wp2_with fail
  all_goals
    refine (small_any _ xs w2 (Vv.out.1.below B2.out.1) Vv.out.2).mono ?_
    rintro e w3 ⟨v2, rfl, ho, hb⟩
    obtain ⟨ys, hys⟩ : ∃ ys, ys = sm xs 0 := ⟨_, rfl⟩
    rw [← hys] at ho
    have Y : Aside (∀ x ∈ ys, x.fits ∧ x.ok ∧ x.s.size ≤ 1048566) := by
      rw [hys]
      intro x hx
      have h1 := sm_all xs 0 Vv.out.2 x hx
      exact ⟨h1.1, h1.2, sm_size xs 0 x hx⟩
    have yl : ys.length ≤ 104857 := by
      have h := sm_len xs 0 Vv.out.2 (by omega)
      rw [← hys] at h; omega
    clear hys
    obtain ⟨a2, cap2, rfl, hc2, hm2⟩ := ho.vals.len
    have HM2 : Aside (cap2 ≤ maxLen) := hm2
    unfold maxLen at hm2
    have B3 : Aside (Below w.heap.size w w3 ∧ WAt w1.heap.size w3 w1.heap.size (.slice none 0 0) ⟨[], L, 0⟩ ∧ OwnV w2.heap.size w3 (.slice a2 ys.length cap2) ys ∧ w1.heap.size ≤ w2.heap.size) :=
      ⟨B2.out.1.trans (hb.mono B2.out.1.size), B2.out.2.below hb, ho, Nat.le_of_lt B2.out.2.lt⟩
    clear ho hb
    go_wp2_with fail
    go_loopg [7, 8, 9] ys.length (fun g0 ss sf si wr => ∃ (k q : Nat) (fl : Bool) (u : Value) (s : WS), k ≤ ys.length ∧ g0 = ys.length - k ∧ si = .int .i64 k ∧ ss = .int .i64 q ∧ sf = .bool fl ∧ s.l.length = q ∧ s.lim = L ∧ s.e = (if fl then 23 else 0) ∧ WAt w1.heap.size wr w1.heap.size u s ∧ OwnV w2.heap.size wr (.slice a2 ys.length cap2) ys ∧ Below w.heap.size w wr)
    case atStart => exact ⟨0, 0, false, _, _, Nat.zero_le _, rfl, rfl, rfl, rfl, rfl, rfl, rfl, B3.out.2.1, B3.out.2.2.1, B3.out.1⟩
    case round =>
      obtain ⟨k, q, fl, u, s, hk, hg, rfl, rfl, rfl, hq, hlim, hse, hw, ho, hb⟩ := hrel
      have R : Aside (gk = ys.length - k ∧ s.l.length = q ∧ s.lim = L ∧ s.e = (if fl then 23 else 0) ∧ WAt w1.heap.size wr w1.heap.size u s ∧ OwnV w2.heap.size wr (.slice a2 ys.length cap2) ys ∧ Below w.heap.size w wr) := ⟨hg, hq, hlim, hse, hw, ho, hb⟩
      have hql : q ≤ 1048576 := by have h1 := hw.2.2.2.1; have h2 := hw.2.2.2.2.1; omega
      clear hg hq hlim hse hw ho hb
      by_cases hlt : k < ys.length
      · obtain ⟨b, off, rfl, hsub⟩ := R.out.2.2.2.2.2.1.vals.sub k hlt
        have Sub : Aside (∀ c, 1 ≤ c → c ≤ maxLen → Vals wr (.slice (some ⟨b, off + k * 4, none⟩) 1 c) [ys.getD k ⟨0, 0, 0, ⟨#[]⟩⟩]) := hsub
        clear hsub
        obtain ⟨x, hxx⟩ : ∃ x, x = ys.getD k ⟨0, 0, 0, ⟨#[]⟩⟩ := ⟨_, rfl⟩
        rw [← hxx] at Sub
        have hmem : x ∈ ys := by rw [hxx]; simp [List.getD, hlt]
        have X : Aside (x = ys.getD k ⟨0, 0, 0, ⟨#[]⟩⟩ ∧ x.fits ∧ x.ok ∧ x.s.size ≤ 1048566) := ⟨hxx, Y.out x hmem⟩
        clear hxx hmem
        go_wp2_with fail
        refine (written_one x wr X.out.2.1 X.out.2.2.1 X.out.2.2.2 _ (Sub.out (cap2 - k) (by omega) (by have := HM2.out; omega))).mono ?_
        rintro e w4 ⟨v3, rfl, ho3, hb3⟩
        obtain ⟨f, hf⟩ : ∃ f, f = x.enc.length := ⟨_, rfl⟩
        have fl1 := (enc_len x X.out.2.1 X.out.2.2.1).1
        have fl2 : x.enc.length ≤ 1048576 := by have := (enc_len x X.out.2.1 X.out.2.2.1).2; have := X.out.2.2.2; omega
        obtain ⟨a3, cap3, rfl⟩ := ho3.nolen
        rw [← hf] at fl1 fl2 ⊢
        have F : Aside (f = x.enc.length) := hf
        have W4 : Aside (WAt w1.heap.size w4 w1.heap.size u s ∧ OwnV w2.heap.size w4 (.slice (some ⟨b, off, none⟩) ys.length cap2) ys ∧ Below w.heap.size w w4) := ⟨R.out.2.2.2.2.1.below hb3, R.out.2.2.2.2.2.1.below hb3, R.out.2.2.2.2.2.2.trans (hb3.mono R.out.2.2.2.2.2.2.size)⟩
        clear hf ho3 hb3
        obtain ⟨b', off', e', p0, p1, p2, p3⟩ := W4.out.2.1.vals.at k hlt
        simp only [Option.some.injEq, Addr.mk.injEq, and_true] at e'
        obtain ⟨rfl, rfl⟩ := e'
        rw [← X.out.1] at p0 p1 p2 p3
        go_wp2_with fail
        refine (lay_any _ _ u s x w4 X.out.2.1 W4.out.1).mono ?_
        rintro e w5 ⟨rfl, hl⟩
        have BL5 : Aside (Below w.heap.size w w5) := W4.out.2.2.trans ((hl.below W4.out.1).mono (by have := B1.out.size; exact this))
        obtain ⟨u5, hw5, hk5, _⟩ := hl
        have OV5 : Aside (OwnV w2.heap.size w5 (.slice (some ⟨b, off, none⟩) ys.length cap2) ys) := W4.out.2.1.kept hk5 (W4.out.1.apartV W4.out.2.1)
        rw [put_ok s X.out.2.2.1] at hw5
        have AL : Aside (WAt w1.heap.size w5 w1.heap.size u5 (s.lay x.enc)) := hw5
        clear hw5 hk5 p0 p1 p2 p3
        cases fl with
        | true =>
          have se : s.e = 23 := R.out.2.2.2.1
          have L5 : Aside (WAt w1.heap.size w5 w1.heap.size u5 s ∧ OwnV w2.heap.size w5 (.slice (some ⟨b, off, none⟩) ys.length cap2) ys ∧ Below w.heap.size w w5) := by
            have h := AL.out
            rw [lay_dead s x.enc (by rw [se]; decide)] at h
            exact ⟨h, OV5.out, BL5.out⟩
          have SE : Aside (s.e = 23) := se
          have so : Aside (s = ⟨s.l, s.lim, 23⟩) := by rw [← se]; rfl
          rw [so.out] at L5
          clear se
          go_wp2_with fail
          refine (wOut_any _ _ _ _ w5 L5.out.1).mono ?_
          rintro e w6 ⟨v6, rfl, ho6, hb6⟩
          obtain ⟨a6, cap6, rfl⟩ := ho6.nolen
          have L6 : Aside (WAt w1.heap.size w6 w1.heap.size u5 (⟨s.l, s.lim, 23⟩ : WS) ∧ OwnV w2.heap.size w6 (.slice (some ⟨b, off, none⟩) ys.length cap2) ys ∧ Below w.heap.size w w6) := ⟨L5.out.1.below hb6, L5.out.2.1.below hb6, L5.out.2.2.trans (hb6.mono L5.out.2.2.size)⟩
          have e6 : (⟨s.l, s.lim, 23⟩ : WS).out.length = 0 := by rfl
          rw [e6]
          clear ho6 hb6 e6
          go_wp2_with fail
          refine (wLen_any _ _ _ _ w6 L6.out.1).mono ?_
          rintro e w6 ⟨rfl, rfl⟩
          have e7 : (⟨s.l, s.lim, 23⟩ : WS).l.length = q := by exact R.out.2.1
          rw [e7]
          clear e7
          go_wp2_with fail
          refine (wErr_any _ _ _ _ w6 L6.out.1).mono ?_
          rintro e w6 ⟨rfl, rfl⟩
          go_wp2_with fail
          go_roundg (ys.length - (k + 1))
          case measure => have := R.out.1; omega
          case rel => exact ⟨k + 1, q, true, u5, (⟨s.l, s.lim, 23⟩ : WS), by omega, rfl, by go_num, by go_num, rfl, by exact R.out.2.1, R.out.2.2.1, rfl, L6.out.1, L6.out.2.1, L6.out.2.2⟩
        | false =>
          have SE : Aside (s.e = 0) := R.out.2.2.2.1
          go_wp2_with fail
          · have hd := Bool.not_eq_true' (decide (_ < (q : Int) + (f : Int))) |>.mp (by assumption)
            have hsp2 := of_decide_eq_false hd
            have hfit : q + f ≤ L := by rw [LA.out]; omega
            have L5 : Aside (WAt w1.heap.size w5 w1.heap.size u5 (⟨s.l ++ x.enc, s.lim, 0⟩ : WS) ∧ OwnV w2.heap.size w5 (.slice (some ⟨b, off, none⟩) ys.length cap2) ys ∧ Below w.heap.size w w5) := by
              have h := AL.out
              rw [lay_fits s x.enc SE.out (by rw [R.out.2.1, R.out.2.2.1, ← F.out]; exact hfit), SE.out] at h
              exact ⟨h, OV5.out, BL5.out⟩
            refine (wOut_any _ _ _ _ w5 L5.out.1).mono ?_
            rintro e w6 ⟨v6, rfl, ho6, hb6⟩
            obtain ⟨a6, cap6, rfl⟩ := ho6.nolen
            have L6 : Aside (WAt w1.heap.size w6 w1.heap.size u5 (⟨s.l ++ x.enc, s.lim, 0⟩ : WS) ∧ OwnV w2.heap.size w6 (.slice (some ⟨b, off, none⟩) ys.length cap2) ys ∧ Below w.heap.size w w6) := ⟨L5.out.1.below hb6, L5.out.2.1.below hb6, L5.out.2.2.trans (hb6.mono L5.out.2.2.size)⟩
            have e6 : (⟨s.l ++ x.enc, s.lim, 0⟩ : WS).out.length = q + f := by show (s.l ++ x.enc).length = _; rw [List.length_append, R.out.2.1, ← F.out]
            rw [e6]
            clear ho6 hb6 e6
            go_wp2_with fail
            refine (wLen_any _ _ _ _ w6 L6.out.1).mono ?_
            rintro e w6 ⟨rfl, rfl⟩
            have e7 : (⟨s.l ++ x.enc, s.lim, 0⟩ : WS).l.length = (q + f) := by (show (s.l ++ x.enc).length = _; rw [List.length_append, R.out.2.1, ← F.out])
            rw [e7]
            clear e7
            go_wp2_with fail
            refine (wErr_any _ _ _ _ w6 L6.out.1).mono ?_
            rintro e w6 ⟨rfl, rfl⟩
            go_wp2_with fail
            go_roundg (ys.length - (k + 1))
            case measure => have := R.out.1; omega
            case rel => exact ⟨k + 1, (q + f), false, u5, (⟨s.l ++ x.enc, s.lim, 0⟩ : WS), by omega, rfl, by go_num, by go_num, rfl, by (show (s.l ++ x.enc).length = _; rw [List.length_append, R.out.2.1, ← F.out]), R.out.2.2.1, rfl, L6.out.1, L6.out.2.1, L6.out.2.2⟩
          · have hd := Bool.not_eq_false' (decide (_ < (q : Int) + (f : Int))) |>.mp (by assumption)
            have hsp2 := of_decide_eq_true hd
            have hfit : ¬ q + f ≤ L := by rw [LA.out]; omega
            have L5 : Aside (WAt w1.heap.size w5 w1.heap.size u5 (⟨s.l, s.lim, 23⟩ : WS) ∧ OwnV w2.heap.size w5 (.slice (some ⟨b, off, none⟩) ys.length cap2) ys ∧ Below w.heap.size w w5) := by
              have h := AL.out
              rw [lay_long s x.enc SE.out (by rw [R.out.2.1, R.out.2.2.1, ← F.out]; exact hfit)] at h
              exact ⟨h, OV5.out, BL5.out⟩
            refine (wOut_any _ _ _ _ w5 L5.out.1).mono ?_
            rintro e w6 ⟨v6, rfl, ho6, hb6⟩
            obtain ⟨a6, cap6, rfl⟩ := ho6.nolen
            have L6 : Aside (WAt w1.heap.size w6 w1.heap.size u5 (⟨s.l, s.lim, 23⟩ : WS) ∧ OwnV w2.heap.size w6 (.slice (some ⟨b, off, none⟩) ys.length cap2) ys ∧ Below w.heap.size w w6) := ⟨L5.out.1.below hb6, L5.out.2.1.below hb6, L5.out.2.2.trans (hb6.mono L5.out.2.2.size)⟩
            have e6 : (⟨s.l, s.lim, 23⟩ : WS).out.length = 0 := by rfl
            rw [e6]
            clear ho6 hb6 e6
            go_wp2_with fail
            refine (wLen_any _ _ _ _ w6 L6.out.1).mono ?_
            rintro e w6 ⟨rfl, rfl⟩
            have e7 : (⟨s.l, s.lim, 23⟩ : WS).l.length = q := by exact R.out.2.1
            rw [e7]
            clear e7
            go_wp2_with fail
            refine (wErr_any _ _ _ _ w6 L6.out.1).mono ?_
            rintro e w6 ⟨rfl, rfl⟩
            go_wp2_with fail
            go_roundg (ys.length - (k + 1))
            case measure => have := R.out.1; omega
            case rel => exact ⟨k + 1, q, true, u5, (⟨s.l, s.lim, 23⟩ : WS), by omega, rfl, by go_num, by go_num, rfl, by exact R.out.2.1, R.out.2.2.1, rfl, L6.out.1, L6.out.2.1, L6.out.2.2⟩
      · go_wp2_with fail
        go_ret
        exact ⟨rfl, R.out.2.2.2.2.2.2⟩
end Go.Proofs.Ytjnjliojkcnddaa
