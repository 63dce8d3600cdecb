/-
  The law's lives.
-/
import Derived.Test.YtdhnpgciclbfeaaGreatDoorAcV
namespace Go.Proofs.YtdhnpgciclbfeaaGreatDoor
open Go.RowKit
namespace Ac
def x0 : Bd := ⟨⟨#[47, 97]⟩, ⟨#[119]⟩, ⟨#[97, 110, 110]⟩, 1⟩
def D1 : DataW Unit := (DataW.map []).put (kl x0.p x0.n) (eR x0.s x0.v)
def D2 : DataW Unit := D1.del (kl x0.p x0.n)
theorem x0_fit : x0.Fit := ⟨by decide, by decide⟩
theorem x0_ok : (bdR x0).2 = 0 := by kernel_rfl
theorem key_lit (p n : ByteArray) : WideAt.IsKeyLit (kl p n) := by unfold kl; trivial
theorem in_x0 : InD D1 x0 := ⟨fun zd => by unfold D1; exact Maps.atKey_put_same Maps.isMap_empty (key_lit _ _) _ zd, by decide, by decide⟩
theorem in_D1 {x : Bd} (h : InD D1 x) : x = x0 := by
  by_cases e : kl x.p x.n = kl x0.p x0.n
  · have q := h.1 (.map [])
    rw [e, in_x0.1] at q
    obtain ⟨q1, q2⟩ := eR_inj q
    obtain ⟨r1, r2⟩ := kl_inj e h.2.1 h.2.2 in_x0.2.1 in_x0.2.2
    cases x
    simp only at q1 q2 r1 r2
    rw [← q1, ← q2, r1, r2]
  · have q := h.1 (.lit (.bool true))
    have q' := h.1 (.lit (.bool false))
    unfold D1 at q q'
    rw [Maps.atKey_put_other e] at q q'
    have z : ∀ zd, (DataW.map [] : DataW Unit).atKey (kl x.p x.n) zd = zd := fun zd => Maps.atKey_of_not_has rfl zd
    rw [z] at q q'
    rw [← q'] at q
    simp at q
theorem in_D2 {x : Bd} (h : InD D2 x) : False := by
  by_cases e : kl x.p x.n = kl x0.p x0.n
  · have q := h.1 (.lit (.bool true))
    have q' := h.1 (.lit (.bool false))
    unfold D2 at q q'
    rw [e, Maps.atKey_del_same] at q q'
    rw [← q'] at q
    simp at q
  · have hx : InD D1 x := ⟨fun zd => by have := h.1 zd; unfold D2 at this; rw [Maps.atKey_del_other e] at this; exact this, h.2⟩
    rw [in_D1 hx] at e
    exact e rfl
theorem yes1 (v : Int) (p : ByteArray) (h1 : isB x0.s x0.v x0.s v = true) (h2 : Lib.containsS (lineP p) x0.p = true) : MayP D1 x0.s v p := Or.inr ⟨fun e => by have := congrArg ByteArray.size e; simp [x0, rootT, ByteArray.size] at this, x0, in_x0, h1, (Lib.containsS_iff _ _).1 h2⟩
theorem no1 (s : ByteArray) (v : Int) (p : ByteArray) (hs : s ≠ rootT) (h : isB x0.s x0.v s v = false ∨ Lib.containsS (lineP p) x0.p = false) : ¬ MayP D1 s v p := by
  rintro (⟨e, _⟩ | ⟨_, x, a, c, d⟩)
  · exact hs e
  · rw [in_D1 a] at c d
    rcases h with h | h
    · rw [h] at c; simp at c
    · rw [(Lib.containsS_iff _ _).2 d] at h; simp at h
theorem no2 (s : ByteArray) (v : Int) (p : ByteArray) (hs : s ≠ rootT) : ¬ MayP D2 s v p := by
  rintro (⟨e, _⟩ | ⟨_, x, a, _, _⟩)
  · exact hs e
  · exact in_D2 a
theorem ne_root (s : ByteArray) (h : s.size = 3) : s ≠ rootT := fun e => by rw [e] at h; exact absurd h (by decide)
theorem m1 : MayP D1 ⟨#[97, 110, 110]⟩ 0 ⟨#[47, 97, 47, 98]⟩ := yes1 0 ⟨#[47, 97, 47, 98]⟩ (by kernel_rfl) (by kernel_rfl)
theorem m2 : MayP D1 ⟨#[97, 110, 110]⟩ 1 ⟨#[47, 97]⟩ := yes1 1 ⟨#[47, 97]⟩ (by kernel_rfl) (by kernel_rfl)
theorem m3 : ¬ MayP D1 ⟨#[97, 110, 110]⟩ 2 ⟨#[47, 97]⟩ := no1 _ _ _ (ne_root _ rfl) (Or.inl (by kernel_rfl))
theorem m4 : ¬ MayP D1 ⟨#[97, 110, 110]⟩ 0 ⟨#[47, 97, 98]⟩ := no1 _ _ _ (ne_root _ rfl) (Or.inr (by kernel_rfl))
theorem m5 : ¬ MayP D1 ⟨#[98, 111, 98]⟩ 0 ⟨#[47, 97]⟩ := no1 _ _ _ (ne_root _ rfl) (Or.inl (by kernel_rfl))
theorem m6 : ¬ MayP D2 ⟨#[97, 110, 110]⟩ 0 ⟨#[47, 97]⟩ := no2 _ _ _ (ne_root _ rfl)
theorem m7 : MayP D2 ⟨#[114, 111, 111, 116]⟩ 3 ⟨#[47, 97]⟩ := Or.inl ⟨rfl, by kernel_rfl, by kernel_rfl⟩
theorem a_ok : L.splitE x0.p = 0 := by kernel_rfl
set_option maxHeartbeats 8000000 in
set_option maxRecDepth 100000 in
theorem lives_any (w : World) (hm : L.HasM w) : Calls Tryz.prog 5 #[] w fun e w' => ∃ t b, e = .returned (.pointer (some ⟨t, 0, none⟩)) ∧ Hid (Ta w' t b 1 D2 ∧ Below w.heap.size w w' ∧ w.heap.size ≤ b) := by
  have HM := Lib.hid hm
  clear hm
  go_enter Tryz.func5, Tryz.ntmps5
  go_wp2_with fail
  refine (new_any w).mono ?_
  rintro e w1 ⟨t, b, rfl, hT, ht, hb', hb⟩
  have S1 : Hid (Ta w1 t b 0 (.map []) ∧ Below w.heap.size w w1) := Lib.hid ⟨⟨hT, HM.out.below hb⟩, hb⟩
  have LB : Hid (w.heap.size ≤ b) := Lib.hid hb'
  clear hT ht hb' hb
  have ST := Lib.hid (set_any x0 w1 t b 0 (.map []) S1.out.1 (by decide) x0_fit)
  unfold Bd.val x0 at ST
  simp only at ST
  go_wp2_with fail
  refine ST.out.mono ?_
  rintro e w2 ⟨r, D', rfl, hT, hk, hor, hz⟩
  have hr0 : r = 0 := hz x0_ok (by decide)
  have S2 : Hid (Ta w2 t b 1 D1 ∧ Below w.heap.size w w2) := Lib.hid (by
    rcases hor with ⟨_, _, e⟩ | ⟨e, _⟩
    · have e' : D' = D1 := e
      rw [e'] at hT
      exact ⟨hT, S1.out.2.trans (hk.below S1.out.2.size (fun x e => by rw [e]; exact LB.out))⟩
    · exact absurd hr0 e)
  subst hr0
  clear hT hk hor hz ST S1
  go_wp2_with fail
  refine (may_any ⟨#[97, 110, 110]⟩ 0 ⟨#[47, 97, 47, 98]⟩ w2 t b 1 D1 S2.out.1).mono ?_
  rintro e w3 ⟨r, rfl, hr, hb⟩
  obtain rfl : r = true := hr.2 m1
  have Sw3 : Hid (Ta w3 t b 1 D1 ∧ Below w.heap.size w w3) := Lib.hid ⟨S2.out.1.below hb, S2.out.2.trans (hb.mono S2.out.2.size)⟩
  clear hr hb S2
  go_wp2_with fail
  refine (may_any ⟨#[97, 110, 110]⟩ 1 ⟨#[47, 97]⟩ w3 t b 1 D1 Sw3.out.1).mono ?_
  rintro e w4 ⟨r, rfl, hr, hb⟩
  obtain rfl : r = true := hr.2 m2
  have Sw4 : Hid (Ta w4 t b 1 D1 ∧ Below w.heap.size w w4) := Lib.hid ⟨Sw3.out.1.below hb, Sw3.out.2.trans (hb.mono Sw3.out.2.size)⟩
  clear hr hb Sw3
  go_wp2_with fail
  refine (may_any ⟨#[97, 110, 110]⟩ 2 ⟨#[47, 97]⟩ w4 t b 1 D1 Sw4.out.1).mono ?_
  rintro e w5 ⟨r, rfl, hr, hb⟩
  obtain rfl : r = false := by cases r with | false => rfl | true => exact absurd (hr.1 rfl) m3
  have Sw5 : Hid (Ta w5 t b 1 D1 ∧ Below w.heap.size w w5) := Lib.hid ⟨Sw4.out.1.below hb, Sw4.out.2.trans (hb.mono Sw4.out.2.size)⟩
  clear hr hb Sw4
  go_wp2_with fail
  refine (may_any ⟨#[97, 110, 110]⟩ 0 ⟨#[47, 97, 98]⟩ w5 t b 1 D1 Sw5.out.1).mono ?_
  rintro e w6 ⟨r, rfl, hr, hb⟩
  obtain rfl : r = false := by cases r with | false => rfl | true => exact absurd (hr.1 rfl) m4
  have Sw6 : Hid (Ta w6 t b 1 D1 ∧ Below w.heap.size w w6) := Lib.hid ⟨Sw5.out.1.below hb, Sw5.out.2.trans (hb.mono Sw5.out.2.size)⟩
  clear hr hb Sw5
  go_wp2_with fail
  refine (may_any ⟨#[98, 111, 98]⟩ 0 ⟨#[47, 97]⟩ w6 t b 1 D1 Sw6.out.1).mono ?_
  rintro e w7 ⟨r, rfl, hr, hb⟩
  obtain rfl : r = false := by cases r with | false => rfl | true => exact absurd (hr.1 rfl) m5
  have Sw7 : Hid (Ta w7 t b 1 D1 ∧ Below w.heap.size w w7) := Lib.hid ⟨Sw6.out.1.below hb, Sw6.out.2.trans (hb.mono Sw6.out.2.size)⟩
  clear hr hb Sw6
  have DR := Lib.hid (drop_any ⟨#[47, 97]⟩ ⟨#[119]⟩ w7 t b 1 D1 Sw7.out.1 (by decide) (by decide))
  go_wp2_with fail
  refine DR.out.mono ?_
  rintro e w8 ⟨r, D', rfl, hT, hk, hor, hz⟩
  have hh : Maps.has D1 (kl ⟨#[47, 97]⟩ ⟨#[119]⟩) = true := Maps.has_true_of_atKey in_x0.1
  have hr0 : r = 0 := hz a_ok hh
  have S8 : Hid (Ta w8 t b 1 D2 ∧ Below w.heap.size w w8) := Lib.hid (by
    rcases hor with ⟨_, _, _, e⟩ | ⟨e, _⟩
    · have e' : D' = D2 := e
      rw [e'] at hT
      exact ⟨hT, Sw7.out.2.trans (hk.below Sw7.out.2.size (fun x e => by rw [e]; exact LB.out))⟩
    · exact absurd hr0 e)
  subst hr0
  clear hT hk hor hz DR Sw7 hh
  go_wp2_with fail
  refine (may_any ⟨#[97, 110, 110]⟩ 0 ⟨#[47, 97]⟩ w8 t b 1 D2 S8.out.1).mono ?_
  rintro e w9 ⟨r, rfl, hr, hb⟩
  obtain rfl : r = false := by cases r with | false => rfl | true => exact absurd (hr.1 rfl) m6
  have Sw9 : Hid (Ta w9 t b 1 D2 ∧ Below w.heap.size w w9) := Lib.hid ⟨S8.out.1.below hb, S8.out.2.trans (hb.mono S8.out.2.size)⟩
  clear hr hb S8
  go_wp2_with fail
  refine (may_any ⟨#[114, 111, 111, 116]⟩ 3 ⟨#[47, 97]⟩ w9 t b 1 D2 Sw9.out.1).mono ?_
  rintro e w10 ⟨r, rfl, hr, hb⟩
  obtain rfl : r = true := hr.2 m7
  have Sw10 : Hid (Ta w10 t b 1 D2 ∧ Below w.heap.size w w10) := Lib.hid ⟨Sw9.out.1.below hb, Sw9.out.2.trans (hb.mono Sw9.out.2.size)⟩
  clear hr hb Sw9
  go_wp2_with fail
  go_ret
  exact ⟨t, b, rfl, Lib.hid ⟨Sw10.out.1, Sw10.out.2, LB.out⟩⟩
end Ac
end Go.Proofs.YtdhnpgciclbfeaaGreatDoor
