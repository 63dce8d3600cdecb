/-
  AccessOfMany.
-/
import Derived.Test.YtlbnmafopfljcaaDoorAkF
import Derived.Test.YtlbnmafopfljcaaDoorAiS
namespace Go.Proofs.YtlbnmafopfljcaaDoor
open Go.RowKit Go.Sort
namespace Ac
theorem li_ref {D : DataW Unit} {P : List Bd} {S T : List Bv} (hD : ∀ x, InD D x ↔ x ∈ P) (hS : Li D S) (hT : Ro P P.length T) : S = T := by
  have hm : ∀ x, (∃ y ∈ T, y.1 = x) ↔ InD D x := fun x => by rw [hT.m, hD, List.take_length]
  have nd : T.Nodup := hT.d.imp fun h e => h (by rw [e])
  have hl : T.length ≤ S.length := len_le nd (fun y hy => by
    obtain ⟨z, hz, e⟩ := (hS.m y.1).2 ((hm y.1).1 ⟨y, hy, rfl⟩)
    have : z = y := Subtype.ext e
    rw [← this]; exact hz)
  exact Li.one hS ⟨hm, hT.d, hT.r, Nat.le_trans hl hS.n⟩ (fun _ => Iff.rfl)
set_option maxHeartbeats 8000000 in
set_option maxRecDepth 100000 in
theorem of_many (v0 : Value) (P : List Bd) (w : World) (hm : L.HasM w) (hv : Row kBr w v0 P) (hf : ∀ x ∈ P, x.Fit) (hp : ∀ x ∈ P, x.p.size ≤ 1048576) (hl : P.length ≤ 600000) :
    Calls Tryd.prog 3 #[v0] w fun e w' => e = .returned (.bool true) ∧ Below w.heap.size w w' := by
  obtain ⟨a0, c0, rfl, _, _⟩ := hv.len
  obtain ⟨n0, hn0⟩ : ∃ k, k = P.length := ⟨_, rfl⟩
  rw [← hn0] at hv ⊢
  have HV := Lib.hid hv
  have HF := Lib.hid hf
  have HP := Lib.hid hp
  have HM := Lib.hid hm
  have HN := Lib.hid hn0
  have HL : Hid (P.length ≤ 600000) := Lib.hid hl
  have L1 : Hid ((([] : List Bd).length + P.length) * kBr.b ≤ 140737488355328) := Lib.hid (by show (0 + _) * 56 ≤ _; omega)
  clear hv hf hp hm hn0 hl
  go_enter Tryd.func3, Tryd.ntmps3
  go_wp2_with (at_builtin; refine app_rows okBr (B := w.heap.size) (v := .slice none 0 0) (u := .slice a0 n0 c0) (l := []) (m := P) rfl _ _ rfl rfl (OwnR.nil _ _ _) (Nat.le_refl _) rfl HV.out L1.out ?_; intro v4 w4 h4 g4; rw [List.nil_append] at h4; obtain ⟨n4, ma, mc, rfl⟩ : ∃ n1 a1 c1, v4 = .slice a1 n1 c1 := by (obtain ⟨a', c', e'⟩ := h4.slice; exact ⟨_, a', c', e'⟩))
  have M4 : Hid (Row kBr w4 (.slice ma n4 mc) P ∧ Below w.heap.size w w4) := Lib.hid ⟨h4.row okBr, (Below.refl _ w).grown g4 (Nat.le_refl _) (fun j hj => by simp [Value.ownBlock] at hj)⟩
  clear h4 g4 L1
  have OA := Lib.hid (of_all P (.slice ma n4 mc) w4 (HM.out.below M4.out.2) M4.out.1 HF.out (by have := HL.out; omega))
  unfold OfQ at OA
  refine OA.out.mono ?_
  rintro e w5 ⟨hb5, k, c, hofr, hcase⟩
  have W5 : Hid (Below w.heap.size w w5 ∧ Below w4.heap.size w4 w5 ∧ OfR P k c) := Lib.hid ⟨M4.out.2.trans (hb5.mono M4.out.2.size), hb5, hofr⟩
  have RA := Lib.hid (refOf_all P (.slice a0 n0 c0) w5 (HV.out.below W5.out.1) HP.out (by have := HL.out; omega))
  unfold RfQ at RA
  clear hb5 hofr OA
  rcases hcase with ⟨hc, rfl⟩ | ⟨rfl, t, b, n, D, rfl, hT, hn, -, hD⟩
  · as_aux_lemma =>
    go_wp2_with fail
    refine RA.out.mono ?_
    rintro e w6 ⟨hb6, k', c', hofr', hcase'⟩
    obtain ⟨-, rfl⟩ := W5.out.2.2.one hofr'
    have W6 : Hid (Below w.heap.size w w6 ∧ Below w4.heap.size w4 w6) := Lib.hid ⟨W5.out.1.trans (hb6.mono W5.out.1.size), W5.out.2.1.trans (hb6.mono W5.out.2.1.size)⟩
    rcases hcase' with ⟨-, rfl⟩ | ⟨h0, -⟩
    case inr => exact absurd h0 hc
    have q : (((c : Nat) : Int) != ((c : Nat) : Int)) = false := bne_self_eq_false _
    have SB := Lib.hid (sameBindR_yes (.slice a0 n0 c0) (.slice ma n4 mc) P w6 (HV.out.below W6.out.1) (M4.out.1.below W6.out.2))
    clear hb6 hofr' RA hc
    go_wp2_with fail
    refine SB.out.mono ?_
    rintro e w7 ⟨rfl, hb7⟩
    have W7 := Lib.hid (W6.out.1.trans (hb7.mono W6.out.1.size))
    clear hb7 SB
    go_wp2_with fail
    go_ret
    exact ⟨rfl, W7.out⟩
  · as_aux_lemma =>
    have TT : Hid (Ta w5 t b n D ∧ n ≤ 1000000 ∧ ∀ x, InD D x ↔ x ∈ P) := Lib.hid ⟨hT, by have := HL.out; omega, hD⟩
    clear hT hn hD
    go_wp2_with fail
    refine RA.out.mono ?_
    rintro e w6 ⟨hb6, k', c', hofr', hcase'⟩
    obtain ⟨-, rfl⟩ := W5.out.2.2.one hofr'
    have W6 : Hid (Below w.heap.size w w6 ∧ Below w4.heap.size w4 w6 ∧ Ta w6 t b n D) := Lib.hid ⟨W5.out.1.trans (hb6.mono W5.out.1.size), W5.out.2.1.trans (hb6.mono W5.out.2.1.size), TT.out.1.below hb6⟩
    rcases hcase' with ⟨h0, -⟩ | ⟨-, r, B, a', c'', T, rfl, hRt, hRo⟩
    case inl => exact absurd rfl h0
    have R6 : Hid (Rt w6 r B a' c'' T ∧ Ro P P.length T) := Lib.hid ⟨hRt, hRo⟩
    have SB := Lib.hid (sameBindR_yes (.slice a0 n0 c0) (.slice ma n4 mc) P w6 (HV.out.below W6.out.1) (M4.out.1.below W6.out.2.1))
    clear hb6 hofr' RA hRt hRo
    go_wp2_with fail
    refine SB.out.mono ?_
    rintro e w7 ⟨rfl, hb7⟩
    have W7 : Hid (Below w.heap.size w w7 ∧ Ta w7 t b n D ∧ Rt w7 r B a' c'' T) := Lib.hid ⟨W6.out.1.trans (hb7.mono W6.out.1.size), W6.out.2.2.below hb7, R6.out.1.below hb7⟩
    have VL : Hid (Vl D) := Lib.hid (fun x hx => by
      have hm := (R6.out.2.m x).2 (by rw [List.take_length]; exact (TT.out.2.2 x).1 hx)
      obtain ⟨y, hy, rfl⟩ := hm
      exact y.2)
    have LS := Lib.hid (list_any w7 t b n D W7.out.2.1 TT.out.2.1 VL.out)
    clear hb7 SB
    go_wp2_with fail
    refine LS.out.mono ?_
    rintro e w8 ⟨v8, S, rfl, hS, hLi, hb8⟩
    have W8 : Hid (Below w.heap.size w w8 ∧ Row kBv w8 v8 S ∧ Li D S ∧ Rt w8 r B a' c'' T) := Lib.hid ⟨W7.out.1.trans (hb8.mono W7.out.1.size), hS, hLi, W7.out.2.2.below hb8⟩
    have RL := Lib.hid (refList_any w8 r B a' c'' T W8.out.2.2.2 (by rw [R6.out.2.n]; have := HL.out; omega))
    clear hS hLi hb8 LS
    go_wp2_with fail
    refine RL.out.mono ?_
    rintro e w9 ⟨v9, rfl, hO, hb9⟩
    have EQ : S = T := li_ref TT.out.2.2 W8.out.2.2.1 R6.out.2
    have SC := Lib.hid (sameBindings_yes v8 v9 S w9 (W8.out.2.1.below hb9) (by rw [EQ]; exact hO.row okBv))
    have W9 := Lib.hid (W8.out.1.trans (hb9.mono W8.out.1.size))
    clear hO hb9 RL EQ
    go_wp2_with fail
    refine SC.out.mono ?_
    rintro e w10 ⟨rfl, hb10⟩
    have WF := Lib.hid (W9.out.trans (hb10.mono W9.out.size))
    clear hb10 SC
    go_wp2_with fail
    go_ret
    exact ⟨rfl, WF.out⟩
end Ac
end Go.Proofs.YtlbnmafopfljcaaDoor
