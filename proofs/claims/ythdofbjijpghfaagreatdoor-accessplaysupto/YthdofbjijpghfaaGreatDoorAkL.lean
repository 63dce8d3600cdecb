/-
  The document's Reach.
-/
import Derived.Test.YthdofbjijpghfaaGreatDoorAkI
import Derived.Test.YthdofbjijpghfaaGreatDoorAjR
namespace Go.Proofs.YthdofbjijpghfaaGreatDoor
open Go.RowKit Go.Sort
namespace Ac
def rchS (u : ByteArray) (v : Int) (l : List Pt) (y : Bv) : List Pt := if givB y.1 u v y.1.p = true ∧ (l.any fun t => L.underB y.1.p t.1) = false then l ++ [Pt.mk y.1.p y.2] else l
def rch (u : ByteArray) (v : Int) (M : List Bv) : List Pt := M.foldl (rchS u v) []
theorem rch_snoc (u : ByteArray) (v : Int) (M : List Bv) (y : Bv) : rch u v (M ++ [y]) = rchS u v (rch u v M) y := by unfold rch; rw [List.foldl_append]; rfl
theorem rch_len (u : ByteArray) (v : Int) (M : List Bv) : (rch u v M).length ≤ M.length := by
  have : ∀ (qs : List Bv) (T : List Pt), (qs.foldl (rchS u v) T).length ≤ T.length + qs.length := by
    intro qs
    induction qs with
    | nil => intro T; simp
    | cons q qs ih =>
      intro T
      have h := ih (rchS u v T q)
      have h2 : (rchS u v T q).length ≤ T.length + 1 := by unfold rchS; split <;> simp
      simp only [List.foldl_cons, List.length_cons]
      omega
  have := this M []
  rw [List.length_nil, Nat.zero_add] at this
  exact this
/-- What the document's Reach tells. -/
def ReT (M : List Bv) (u : ByteArray) (v : Int) (T : List Pt) : Prop :=
  (¬ (0 ≤ v ∧ v ≤ 3) ∧ T = []) ∨ ((0 ≤ v ∧ v ≤ 3) ∧ u = rootT ∧ T = [Pt.z]) ∨ ((0 ≤ v ∧ v ≤ 3) ∧ u ≠ rootT ∧ T = rch u v M)
def ReQ (w : World) (M : List Bv) (u : ByteArray) (v : Int) (e : Ending) (w' : World) : Prop :=
  ∃ vv T, e = .returned vv ∧ Row kPt w' vv T ∧ ReT M u v T ∧ Below w.heap.size w w'
theorem any_snoc (p : ByteArray) (l : List Pt) (j : Nat) (h : j < l.length) : ((l.take (j + 1)).any fun t => L.underB p t.1) = (((l.take j).any fun t => L.underB p t.1) || L.underB p (l.getD j Pt.z).1) := by
  rw [take_snocP l j h, List.any_append]; simp
set_option maxHeartbeats 8000000 in
set_option maxRecDepth 100000 in
theorem refReach_any (u : ByteArray) (v : Int) (w : World) (r B : Nat) (a : Option Addr) (c : Nat) (M : List Bv) (H : Rt w r B a c M) (hl : M.length ≤ 900000) (hp : ∀ y ∈ M, y.1.p.size ≤ 1048576) :
    Calls Tryz.prog 22 #[.pointer (some ⟨r, 0, none⟩), .string u, .int .i64 v] w (ReQ w M u v) := by
  have HH := Lib.hid H
  have HP := Lib.hid hp
  obtain ⟨n0, hn0⟩ : ∃ k, k = M.length := ⟨_, rfl⟩
  have HN := Lib.hid hn0
  have hl' : n0 ≤ 900000 := by rw [hn0]; exact hl
  have CX : Hid (∀ W, Below w.heap.size w W → Rt W r B a c M ∧ W.cell? ⟨r, 0, none⟩ = some (.slice a n0 c)) := Lib.hid fun W hW => by
    have hr := HH.out.below hW
    refine ⟨hr, ?_⟩
    rw [cell_of_row _ _ _ _ _ _ hr.x, HN.out]; rfl
  have z0 := (CX.out w (Below.refl _ _)).2
  clear H hl hp hn0
  by_cases h1 : v < 0
  · have d1 : decide (v < 0) = true := decide_eq_true h1
    go_enter Tryz.func22, Tryz.ntmps22
    go_wp2_with fail
    go_ret
    exact ⟨_, [], rfl, (OwnR.nil kPt 0 w).row okPt, Or.inl ⟨fun h => by omega, rfl⟩, Below.refl _ _⟩
  · have d1 : decide (v < 0) = false := decide_eq_false h1
    by_cases h3 : v > 3
    · have d3 : decide (v > 3) = true := decide_eq_true h3
      go_enter Tryz.func22, Tryz.ntmps22
      go_wp2_with fail
      go_ret
      exact ⟨_, [], rfl, (OwnR.nil kPt 0 w).row okPt, Or.inl ⟨fun h => by omega, rfl⟩, Below.refl _ _⟩
    · have d3 : decide (v > 3) = false := decide_eq_false h3
      have VR : Hid (0 ≤ v ∧ v ≤ 3) := Lib.hid ⟨by omega, by omega⟩
      by_cases hs : u = rootT
      · have ge : (u.toList == [114, 111, 111, 116]) = true := by rw [hs, ByteArray.toList_eq]; rfl
        have US := Lib.hid hs
        clear hs
        go_enter Tryz.func22, Tryz.ntmps22
        go_wp2_with fail
        go_ret
        exact ⟨_, [Pt.z], rfl, (row_built w [Pt.z] okPt (by rfl) rfl (by decide)).row okPt, Or.inr (Or.inl ⟨VR.out, US.out, rfl⟩), (Below.refl _ _).alloc (Nat.le_refl _) _⟩
      · have ge : (u.toList == [114, 111, 111, 116]) = false := by
          have q := teq_no hs
          rw [show rootT.toList = [114, 111, 111, 116] by rw [ByteArray.toList_eq]; rfl] at q
          exact q
        have US := Lib.hid hs
        clear hs
        go_enter Tryz.func22, Tryz.ntmps22
        go_wp2_with fail
        go_loopg [7, 8] n0 (fun gg sl si wr => ∃ (i : Nat) (T : List Pt) (al : Option Addr) (cl : Nat), i ≤ n0 ∧ gg = n0 - i ∧ si = .int .i64 i ∧ sl = .slice al T.length cl ∧ Hid (T = rch u v (M.take i) ∧ OwnR kPt w.heap.size wr (.slice al T.length cl) T ∧ Below w.heap.size w wr))
        case atStart => exact ⟨0, [], none, 0, by omega, rfl, rfl, rfl, Lib.hid ⟨by simp [rch], OwnR.nil _ _ _, Below.refl _ _⟩⟩
        case round =>
          clear z0
          obtain ⟨i, T, al, cl, hi, hg, rfl, rfl, Q⟩ := hrel
          have G := Lib.hid hg
          clear hg
          have z0 := (CX.out wr Q.out.2.2).2
          by_cases h0 : i < n0
          · as_aux_lemma =>
            have h0' : (i : Int) < (n0 : Int) := by omega
            have hkl : i < M.length := by rw [← HN.out]; exact h0
            obtain ⟨bb, off, ea, q4⟩ := row_cellsV ((CX.out wr Q.out.2.2).1.o.row okBv) i hkl
            subst ea
            obtain ⟨p0, p1, p2, p3⟩ := q4 wr (Below.refl _ _)
            obtain ⟨y, hy⟩ : ∃ y, y = M.getD i Bv.z := ⟨_, rfl⟩
            rw [← hy] at p0 p1 p2 p3
            have TK : Hid (rch u v (M.take (i + 1)) = rchS u v T y) := Lib.hid (by rw [take_oneB M i Bv.z hkl, rch_snoc, ← Q.out.1, ← hy])
            have YS : Hid (y.1.p.size ≤ 1048576) := Lib.hid (by rw [hy]; exact HP.out _ (getD_inB hkl))
            have TL : Hid (T.length ≤ i) := Lib.hid (by rw [Q.out.1]; have := rch_len u v (M.take i); rw [List.length_take] at this; omega)
            obtain ⟨⟨xp, xn, xs, xv⟩, hx⟩ : ∃ x, x = y.1 := ⟨_, rfl⟩
            have HX := Lib.hid hx
            rw [← hx] at p0 p1 p2 p3 YS
            simp only at p0 p1 p2 p3 YS
            obtain ⟨gv, hgv⟩ : ∃ g, g = givB ⟨xp, xn, xs, xv⟩ u v xp := ⟨_, rfl⟩
            have GV := Lib.hid hgv
            have GA := Lib.hid (refGives_any ⟨xp, xn, xs, xv⟩ u v xp wr YS.out)
            rw [← hgv] at GA
            unfold Bd.val at GA
            simp only at GA
            clear hx hgv hy q4
            go_wp2_with fail
            refine GA.out.mono ?_
            rintro e w3 ⟨rfl, hb3⟩
            have B3 := Lib.hid (Q.out.2.2.trans (hb3.mono Q.out.2.2.size))
            have O3 := Lib.hid (Q.out.2.1.below hb3)
            have z3 := (CX.out w3 B3.out).2
            clear z0 p0 p1 p2 p3 GA hb3
            cases gv with
            | false =>
              have TE : Hid (T = rch u v (M.take (i + 1))) := Lib.hid (by rw [TK.out]; unfold rchS; rw [if_neg (fun h => by have := h.1; rw [← HX.out, ← GV.out] at this; exact absurd this (by decide))])
              go_wp2_with fail
              go_roundg (n0 - (i + 1))
              case measure => have := G.out; omega
              case rel => exact ⟨i + 1, T, al, cl, by omega, rfl, by go_num, rfl, Lib.hid ⟨TE.out, O3.out, B3.out⟩⟩
            | true =>
              obtain ⟨m, hm⟩ : ∃ m, m = T.length := ⟨_, rfl⟩
              have HM := Lib.hid hm
              have hmi : m ≤ 900000 := by rw [hm]; have := TL.out; omega
              rw [← hm] at O3 ⊢
              clear hm z3
              go_wp2_with fail
              go_loopg [10, 11] m (fun gg sb sj wq => ∃ (j : Nat) (b : Bool), j ≤ m ∧ gg = m - j ∧ sj = .int .i64 j ∧ sb = .bool b ∧ Hid (b = ((T.take j).any fun t => L.underB xp t.1) ∧ Below w3.heap.size w3 wq))
              case atStart => exact ⟨0, false, by omega, rfl, rfl, rfl, Lib.hid ⟨by simp, Below.refl _ _⟩⟩
              case round =>
                obtain ⟨j, b, hj, hg, rfl, rfl, R⟩ := hrel
                have GJ := Lib.hid hg
                clear hg
                by_cases h1 : j < m
                · have h1' : (j : Int) < (m : Int) := by omega
                  have hjl : j < T.length := by rw [← HM.out]; exact h1
                  have ST : Hid (((T.take (j + 1)).any fun t => L.underB xp t.1) = (b || L.underB xp (T.getD j Pt.z).1)) := Lib.hid (by rw [any_snoc xp T j hjl, ← R.out.1])
                  cases b with
                  | true =>
                    have TE : Hid (true = ((T.take (j + 1)).any fun t => L.underB xp t.1)) := Lib.hid (by rw [ST.out]; rfl)
                    go_wp2_with fail
                    go_roundg (m - (j + 1))
                    case measure => have := GJ.out; omega
                    case rel => exact ⟨j + 1, true, by omega, rfl, by go_num, rfl, Lib.hid ⟨TE.out, R.out.2⟩⟩
                  | false =>
                    obtain ⟨b2, o2, ea2, pc2⟩ := ((O3.out.below R.out.2).row okPt).at j hjl
                    subst ea2
                    obtain ⟨t, ht⟩ : ∃ t, t = T.getD j Pt.z := ⟨_, rfl⟩
                    have p2 : wr.cell? ⟨b2, o2 + j, none⟩ = some (.string t.1) := by
                      have q := pc2 0 _ rfl
                      have e : o2 + j * kPt.k + 0 = o2 + j := by show o2 + j * 1 + 0 = o2 + j; omega
                      rw [e] at q
                      rw [ht]
                      exact q
                    have UN := Lib.hid (runder_anyA xp t.1 wr YS.out)
                    obtain ⟨uu, hu⟩ : ∃ uu, uu = L.underB xp t.1 := ⟨_, rfl⟩
                    rw [← hu] at UN
                    have TE : Hid (uu = ((T.take (j + 1)).any fun t => L.underB xp t.1)) := Lib.hid (by rw [ST.out, hu, ht]; rfl)
                    clear hu ht pc2
                    go_wp2_with fail
                    refine UN.out.mono ?_
                    rintro e w4 ⟨rfl, hb4⟩
                    have B4 := Lib.hid (R.out.2.trans (hb4.mono R.out.2.size))
                    clear hb4 UN p2
                    go_wp2_with fail
                    go_roundg (m - (j + 1))
                    case measure => have := GJ.out; omega
                    case rel => exact ⟨j + 1, uu, by omega, rfl, by go_num, rfl, Lib.hid ⟨TE.out, B4.out⟩⟩
                · have AE : Hid (b = (T.any fun t => L.underB xp t.1)) := Lib.hid (by rw [R.out.1, List.take_of_length_le (by rw [← HM.out]; omega)])
                  have O4 := Lib.hid (O3.out.below R.out.2)
                  have B4 := Lib.hid (B3.out.trans (R.out.2.mono B3.out.size))
                  cases b with
                  | true =>
                    have TE : Hid (T = rch u v (M.take (i + 1))) := Lib.hid (by rw [TK.out]; unfold rchS; rw [if_neg (fun h => by have := h.2; rw [← HX.out, ← AE.out] at this; exact absurd this (by decide))])
                    go_wp2_with fail
                    go_roundg (n0 - (i + 1))
                    case measure => have := G.out; omega
                    case rel => exact ⟨i + 1, T, al, cl, by omega, rfl, by go_num, by rw [HM.out], Lib.hid ⟨TE.out, by rw [← HM.out]; exact O4.out, B4.out⟩⟩
                  | false =>
                    have TE : Hid (T ++ [Pt.mk y.1.p y.2] = rch u v (M.take (i + 1))) := Lib.hid (by rw [TK.out]; unfold rchS; rw [if_pos ⟨by rw [← HX.out, ← GV.out], by rw [← HX.out, ← AE.out]⟩])
                    have BZ : Hid (w.heap.size ≤ wr.heap.size) := Lib.hid B4.out.size
                    have TB : Hid (T.length < 100000000) := Lib.hid (by have := HM.out; omega)
                    go_wp2_with (at_builtin; refine app_row okPt (gg := wr.heap.size) rfl _ _ rfl rfl O4.out BZ.out (Pt.mk y.1.p y.2) ?hgg ?hcs rfl TB.out ?_)
                    case hgg => simp
                    case hcs => show _ = #[Value.string y.1.p]; rw [← HX.out]
                    intro v' w5 g1 g2
                    obtain ⟨a', c', rfl⟩ := g1.slice
                    have X5 : Hid (OwnR kPt w.heap.size w5 (.slice a' (T ++ [Pt.mk y.1.p y.2]).length c') (T ++ [Pt.mk y.1.p y.2]) ∧ Below w.heap.size w w5) := Lib.hid ⟨g1, B4.out.trans ((Below.refl _ _).grown g2 B4.out.size (fun k e => (O4.out.lt k e).1))⟩
                    clear g1 g2 O4
                    go_wp2_with fail
                    go_roundg (n0 - (i + 1))
                    case measure => have := G.out; omega
                    case rel => exact ⟨i + 1, _, a', c', by omega, rfl, by go_num, rfl, Lib.hid ⟨TE.out, X5.out.1, X5.out.2⟩⟩
          · have TE : Hid (T = rch u v M) := Lib.hid (by rw [Q.out.1, List.take_of_length_le (by rw [← HN.out]; omega)])
            go_wp2_with fail
            go_ret
            exact ⟨_, T, rfl, Q.out.2.1.row okPt, Or.inr (Or.inr ⟨VR.out, US.out, TE.out⟩), Q.out.2.2⟩
end Ac
end Go.Proofs.YthdofbjijpghfaaGreatDoor
