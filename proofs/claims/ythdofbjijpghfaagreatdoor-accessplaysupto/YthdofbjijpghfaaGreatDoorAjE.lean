/-
  highest, of every row of paths that rise.
-/
import Derived.Test.YthdofbjijpghfaaGreatDoorAjB
import Derived.Test.YthdofbjijpghfaaGreatDoorAcJ
namespace Go.Proofs.YthdofbjijpghfaaGreatDoor
open Go.RowKit Go.Sort Go.Lib
namespace Ac
theorem getLastD_snoc (T : List Pt) (p : Pt) : (T ++ [p]).getLastD Pt.z = p := by simp [List.getLastD_eq_getLast?]
theorem getLastD_at (T : List Pt) : T.getLastD Pt.z = T.getD (T.length - 1) Pt.z := by
  rw [List.getLastD_eq_getLast?, List.getLast?_eq_getElem?, List.getD_eq_getElem?_getD]
theorem take_snocP (l : List Pt) (i : Nat) (h : i < l.length) : l.take (i + 1) = l.take i ++ [l.getD i Pt.z] := by
  rw [List.take_add_one, List.getD_eq_getElem?_getD, List.getElem?_eq_getElem h]; rfl
theorem hiF_len (ps : List Pt) : (hiF ps).length ≤ ps.length := by
  have : ∀ (qs T : List Pt), (qs.foldl hiS T).length ≤ T.length + qs.length := by
    intro qs
    induction qs with
    | nil => intro T; simp
    | cons q qs ih =>
      intro T
      have h := ih (hiS T q)
      have h2 : (hiS T q).length ≤ T.length + 1 := by unfold hiS; split <;> simp
      simp only [List.foldl_cons, List.length_cons]
      omega
  have := this ps []
  rw [List.length_nil, Nat.zero_add] at this
  exact this
set_option maxHeartbeats 4000000 in
set_option maxRecDepth 100000 in
theorem highest_any (v0 : Value) (l : List Pt) (w : World) (hm : L.HasM w) (H : Row kPt w v0 l) (hl : l.length < 100000000) :
    Calls Tryz.prog 44 #[v0] w fun e w' => ∃ v, e = .returned v ∧ OwnR kPt w.heap.size w' v (hiF l) ∧ Below w.heap.size w w' := by
  obtain ⟨a0, c0, rfl, _, _⟩ := H.len
  obtain ⟨n0, hn0⟩ : ∃ n, n = l.length := ⟨_, rfl⟩
  rw [← hn0] at H ⊢
  have HH := Lib.hid H
  have HM := Lib.hid hm
  have HN := Lib.hid hn0
  have HL : n0 < 100000000 := by omega
  clear H hm hl hn0
  go_enter Tryz.func44, Tryz.ntmps44
  go_wp2_with fail
  go_loopg [3, 9] n0 (fun gg s3 si wr => ∃ (i : Nat) (T : List Pt) (a : Option Addr) (c : Nat), i ≤ n0 ∧ gg = n0 - i ∧ si = .int .i64 i ∧ s3 = .slice a T.length c ∧ Hid (T = hiF (l.take i) ∧ OwnR kPt w.heap.size wr (.slice a T.length c) T ∧ Below w.heap.size w wr))
  case atStart => exact ⟨0, [], none, 0, by omega, rfl, rfl, rfl, Lib.hid ⟨by simp [hiF], OwnR.nil _ _ _, Below.refl _ _⟩⟩
  case round =>
    obtain ⟨i, T, a, c, hi, hg, rfl, rfl, SS⟩ := hrel
    have G := Lib.hid hg
    clear hg
    by_cases h0 : i < n0
    · have h0' : (i : Int) < (n0 : Int) := by omega
      obtain ⟨bb, off, ea, pc⟩ := (HH.out.below SS.out.2.2).at i (by rw [← HN.out]; exact h0)
      subst ea
      obtain ⟨x, hx⟩ : ∃ x, x = l.getD i kPt.z := ⟨_, rfl⟩
      rw [← hx] at pc
      have p0 : wr.cell? ⟨bb, off + i, none⟩ = some (.string x.1) := by
        have q := pc 0 _ rfl
        have e : off + i * kPt.k + 0 = off + i := by show off + i * 1 + 0 = off + i; omega
        rw [e] at q
        exact q
      have FX : Hid (hiF (l.take (i + 1)) = hiS T x) := Lib.hid (by rw [take_snocP l i (by rw [← HN.out]; exact h0), hiF_snoc, ← SS.out.1, hx]; rfl)
      have TL : Hid (T.length ≤ i) := Lib.hid (by rw [SS.out.1]; have := hiF_len (l.take i); rw [List.length_take] at this; omega)
      clear pc hx
      have TB : Hid (T.length < 100000000) := Lib.hid (by have := TL.out; omega)
      by_cases ht : T.length = 0
      · have e0 : T = [] := List.length_eq_zero_iff.1 ht
        subst e0
        have FE : Hid (hiF (l.take (i + 1)) = [] ++ [x]) := Lib.hid (by rw [FX.out]; unfold hiS; rw [if_pos (Or.inl rfl)])
        have O := Lib.hid SS.out.2.1
        have B := Lib.hid SS.out.2.2
        have BZ : Hid (w.heap.size ≤ wr.heap.size) := Lib.hid B.out.size
        go_wp2_with (at_builtin; refine app_row okPt (gg := wr.heap.size) rfl _ _ rfl rfl O.out BZ.out x ?hgg rfl rfl TB.out ?_)
        case hgg => simp
        intro v' w4 h1 h2
        obtain ⟨a', c', rfl⟩ := h1.slice
        have X4 : Hid (OwnR kPt w.heap.size w4 (.slice a' ([] ++ [x] : List Pt).length c') ([] ++ [x]) ∧ Below w.heap.size w w4) := Lib.hid ⟨h1, B.out.trans ((Below.refl _ _).grown h2 B.out.size (fun k e => (O.out.lt k e).1))⟩
        clear h1 h2 O B
        go_wp2_with fail
        go_roundg (n0 - (i + 1))
        case measure => have := G.out; omega
        case rel => exact ⟨i + 1, _, a', c', by omega, rfl, by go_num, rfl, Lib.hid ⟨FE.out.symm, X4.out.1, X4.out.2⟩⟩
      · have hne : T ≠ [] := fun e => ht (by rw [e]; rfl)
        obtain ⟨k, hk⟩ : ∃ k, T.length = k + 1 := ⟨T.length - 1, by omega⟩
        have O := Lib.hid SS.out.2.1
        obtain ⟨b2, o2, ea2, pc2⟩ := (O.out.row okPt).at k (by omega)
        obtain ⟨y, hy⟩ : ∃ y, y = T.getD k kPt.z := ⟨_, rfl⟩
        rw [← hy] at pc2
        have p2 : wr.cell? ⟨b2, o2 + k, none⟩ = some (.string y.1) := by
          have q := pc2 0 _ rfl
          have e : o2 + k * kPt.k + 0 = o2 + k := by show o2 + k * 1 + 0 = o2 + k; omega
          rw [e] at q
          exact q
        have YL : Hid (T.getLastD Pt.z = y) := Lib.hid (by rw [getLastD_at T, hk, hy]; rfl)
        have NE := Lib.hid hne
        have KK := Lib.hid hk
        have kb : (k : Int) < 100000000 := by have := TB.out; omega
        have B := Lib.hid SS.out.2.2
        have UN := Lib.hid (L.under_any x.1 y.1 wr (HM.out.below SS.out.2.2))
        subst ea2
        rw [hk] at O SS ⊢
        clear pc2 hy hne hk ht
        obtain ⟨uu, hu⟩ : ∃ uu, uu = L.underB x.1 y.1 := ⟨_, rfl⟩
        rw [← hu] at UN
        have HU := Lib.hid hu
        clear hu
        have g1 : ((k : Int) + 1 == 0) = false := by rw [beq_eq_false_iff_ne]; omega
        have g2 : (((k + 1 : Nat) : Int) == 0) = false := by rw [beq_eq_false_iff_ne]; omega
        go_wp2_with fail
        refine UN.out.mono ?_
        rintro e w3 ⟨rfl, hb3⟩
        have X3 : Hid (OwnR kPt w.heap.size w3 (.slice (some ⟨b2, o2, none⟩) (k + 1) c) T ∧ Below w.heap.size w w3) := Lib.hid ⟨O.out.below hb3, B.out.trans (hb3.mono B.out.size)⟩
        clear hb3 UN
        cases uu with
        | true =>
          have FE : Hid (hiF (l.take (i + 1)) = T) := Lib.hid (by rw [FX.out]; unfold hiS; rw [if_neg (fun q => by rcases q with q | q; exact NE.out q; rw [YL.out, ← HU.out] at q; simp at q)])
          go_wp2_with fail
          go_roundg (n0 - (i + 1))
          case measure => have := G.out; omega
          case rel => exact ⟨i + 1, T, _, c, by omega, rfl, by go_num, by rw [KK.out], Lib.hid ⟨FE.out.symm, by rw [KK.out]; exact X3.out.1, X3.out.2⟩⟩
        | false =>
          have FE : Hid (hiF (l.take (i + 1)) = T ++ [x]) := Lib.hid (by rw [FX.out]; unfold hiS; rw [if_pos (Or.inr (by rw [YL.out, ← HU.out]))])
          have O3 := Lib.hid X3.out.1
          have BZ : Hid (w.heap.size ≤ w3.heap.size) := Lib.hid X3.out.2.size
          go_wp2_with (at_builtin; refine app_row okPt (gg := w3.heap.size) rfl _ _ rfl rfl O3.out BZ.out x ?hgg rfl rfl TB.out ?_)
          case hgg => simp
          intro v' w4 h1 h2
          obtain ⟨a', c', rfl⟩ := h1.slice
          have X4 : Hid (OwnR kPt w.heap.size w4 (.slice a' (T ++ [x]).length c') (T ++ [x]) ∧ Below w.heap.size w w4) := Lib.hid ⟨h1, X3.out.2.trans ((Below.refl _ _).grown h2 X3.out.2.size (fun k e => (O3.out.lt k e).1))⟩
          clear h1 h2 O3 O
          go_wp2_with fail
          go_roundg (n0 - (i + 1))
          case measure => have := G.out; omega
          case rel => exact ⟨i + 1, _, a', c', by omega, rfl, by go_num, by simp [KK.out], Lib.hid ⟨FE.out.symm, X4.out.1, X4.out.2⟩⟩
    · have DN : Hid (hiF l = T) := Lib.hid (by rw [SS.out.1, List.take_of_length_le (by rw [← HN.out]; omega)])
      go_wp2_with fail
      go_ret
      exact ⟨_, rfl, by rw [DN.out]; exact SS.out.2.1, SS.out.2.2⟩
end Ac
end Go.Proofs.YthdofbjijpghfaaGreatDoor
