/-
  The document's without, Drop, Leave.
-/
import Derived.Test.YthdofbjijpghfaaGreatDoorAkE
namespace Go.Proofs.YthdofbjijpghfaaGreatDoor
open Go.RowKit Go.Sort
namespace Ac
/-- What stays. -/
def kpB (p q : ByteArray) (all : Bool) (y : Bv) : Bool := !((y.1.p.toList == p.toList) && (all || (y.1.n.toList == q.toList)))
set_option maxHeartbeats 8000000 in
set_option maxRecDepth 100000 in
theorem refWithout_any (p q : ByteArray) (all : Bool) (w : World) (r B : Nat) (a : Option Addr) (c : Nat) (M : List Bv) (H : Rt w r B a c M) (hB : B ≤ w.heap.size) (hl : M.length ≤ 900000) :
    Calls Tryz.prog 35 #[.pointer (some ⟨r, 0, none⟩), .string p, .string q, .bool all] w fun e w' => ∃ (a' : Option Addr) (c' : Nat), e = .returned (.int .i64 ((M.length : Int) - ((M.filter (kpB p q all)).length : Int))) ∧ Rt w' r w.heap.size a' c' (M.filter (kpB p q all)) ∧ Kept (fun y => y = r) w w' := by
  have HH := Lib.hid H
  have HB := Lib.hid hB
  obtain ⟨n0, hn0⟩ : ∃ k, k = M.length := ⟨_, rfl⟩
  have HN := Lib.hid hn0
  have hl' : n0 ≤ 900000 := by rw [hn0]; exact hl
  have CX : Hid (∀ W, Below w.heap.size w W → Rt W r B a c M ∧ W.cell? ⟨r, 0, none⟩ = some (.slice a n0 c)) := Lib.hid fun W hW => by
    have hr := HH.out.below hW
    refine ⟨hr, ?_⟩
    rw [cell_of_row _ _ _ _ _ _ hr.x, HN.out]; rfl
  have z0 := (CX.out w (Below.refl _ _)).2
  rw [← hn0]
  clear H hB hl hn0
  go_enter Tryz.func35, Tryz.ntmps35
  go_wp2_with fail
  go_loopg [9, 10] n0 (fun gg s9 si wr => ∃ (i : Nat) (l : List Bv) (al : Option Addr) (cl : Nat), i ≤ n0 ∧ gg = n0 - i ∧ si = .int .i64 i ∧ s9 = .slice al l.length cl ∧ Hid (l = (M.take i).filter (kpB p q all) ∧ OwnR kBv w.heap.size wr (.slice al l.length cl) l ∧ Below w.heap.size w wr))
  case atStart => exact ⟨0, [], none, 0, by omega, rfl, rfl, rfl, Lib.hid ⟨by simp, OwnR.nil _ _ _, Below.refl _ _⟩⟩
  case round =>
    clear z0
    obtain ⟨i, l, al, cl, hi, hg, rfl, rfl, Q⟩ := hrel
    have G := Lib.hid hg
    clear hg
    have z0 := (CX.out wr Q.out.2.2).2
    by_cases h0 : i < n0
    · as_aux_lemma =>
      have h0' : (i : Int) < (n0 : Int) := by omega
      have hkl : i < M.length := by rw [← HN.out]; exact h0
      obtain ⟨bb, off, ea, p0, p1, p2, p3⟩ := row_atB ((CX.out wr Q.out.2.2).1.o.row okBv) i hkl
      subst ea
      obtain ⟨y, hy⟩ : ∃ y, y = M.getD i Bv.z := ⟨_, rfl⟩
      rw [← hy] at p0 p1 p2 p3
      have TK : Hid ((M.take (i + 1)).filter (kpB p q all) = l ++ (if kpB p q all y then [y] else [])) := Lib.hid (by
        rw [take_oneB M i Bv.z hkl, List.filter_append, ← Q.out.1, ← hy]
        cases e : kpB p q all y <;> simp [List.filter, e])
      obtain ⟨yq, hyq⟩ : ∃ z : Bd, y.1 = z := ⟨_, rfl⟩
      rw [hyq] at p0 p1 p2 p3
      obtain ⟨yp, yn, ys, yv⟩ := yq
      simp only at p0 p1 p2 p3
      have YE : Hid (Bv.c y = [.string yp, .string yn, .string ys, .int .i64 yv]) := Lib.hid (by unfold Bv.c; rw [hyq])
      obtain ⟨kp, hkp⟩ : ∃ k, k = kpB p q all y := ⟨_, rfl⟩
      have KP : Hid (kp = !((yp.toList == p.toList) && (all || (yn.toList == q.toList)))) := Lib.hid (by rw [hkp]; unfold kpB; rw [hyq])
      rw [← hkp] at TK
      have LL : Hid (l.length < 100000000) := Lib.hid (by have := List.length_filter_le (kpB p q all) (M.take i); rw [← Q.out.1, List.length_take] at this; omega)
      clear hy hyq hkp
      go_upto_region 5 with fail
      go_cut [45] (fun s45 wx => s45 = .bool (!kp) ∧ wx = wr)
      case first => as_aux_lemma =>
        cases e1 : (yp.toList == p.toList) with
        | false =>
          have KE : Hid (kp = true) := Lib.hid (by rw [KP.out, e1]; rfl)
          go_wp2_with fail
          go_meet
          case rel => exact ⟨by rw [KE.out]; rfl, rfl⟩
        | true =>
          cases all with
          | true =>
            have KE : Hid (kp = false) := Lib.hid (by rw [KP.out, e1]; rfl)
            go_wp2_with fail
            go_meet
            case rel => exact ⟨by rw [KE.out]; rfl, rfl⟩
          | false =>
            cases e2 : (yn.toList == q.toList) with
            | false =>
              have KE : Hid (kp = true) := Lib.hid (by rw [KP.out, e1, e2]; rfl)
              go_wp2_with fail
              go_meet
              case rel => exact ⟨by rw [KE.out]; rfl, rfl⟩
            | true =>
              have KE : Hid (kp = false) := Lib.hid (by rw [KP.out, e1, e2]; rfl)
              go_wp2_with fail
              go_meet
              case rel => exact ⟨by rw [KE.out]; rfl, rfl⟩
      case rest =>
        obtain ⟨rfl, rfl⟩ := hcut
        cases kp with
        | false =>
          have TE : Hid (l = (M.take (i + 1)).filter (kpB p q all)) := Lib.hid (by have := TK.out; simpa using this.symm)
          clear TK KP
          go_wp2_with fail
          go_roundg (n0 - (i + 1))
          case measure => have := G.out; omega
          case rel => exact ⟨i + 1, l, al, cl, by omega, rfl, by go_num, rfl, Lib.hid ⟨TE.out, Q.out.2.1, Q.out.2.2⟩⟩
        | true =>
          have TE : Hid (l ++ [y] = (M.take (i + 1)).filter (kpB p q all)) := Lib.hid (by have := TK.out; simpa using this.symm)
          have O := Lib.hid Q.out.2.1
          have BZ : Hid (w.heap.size ≤ wc.heap.size) := Lib.hid Q.out.2.2.size
          clear TK KP
          go_wp2_with (at_builtin; refine app_row okBv (gg := wc.heap.size) rfl _ _ rfl rfl O.out BZ.out y ?hgg ?hcs rfl LL.out ?_)
          case hgg => simp
          case hcs => rw [show kBv.c y = [.string yp, .string yn, .string ys, .int .i64 yv] from YE.out]
          intro v5 w5 h5 g5
          obtain ⟨a5, c5, rfl⟩ := h5.slice
          have S5 : Hid (OwnR kBv w.heap.size w5 (.slice a5 (l ++ [y]).length c5) (l ++ [y]) ∧ Below w.heap.size w w5) := Lib.hid ⟨h5, Q.out.2.2.trans ((Below.refl _ _).grown g5 Q.out.2.2.size (fun k e => (O.out.lt k e).1))⟩
          clear h5 g5
          go_wp2_with fail
          go_roundg (n0 - (i + 1))
          case measure => have := G.out; omega
          case rel => exact ⟨i + 1, l ++ [y], a5, c5, by omega, rfl, by go_num, rfl, Lib.hid ⟨TE.out, S5.out.1, S5.out.2⟩⟩
    · have TE : Hid (l = M.filter (kpB p q all)) := Lib.hid (by rw [Q.out.1, List.take_of_length_le (by rw [← HN.out]; omega)])
      have rx := (CX.out wr Q.out.2.2).1.x
      have RL : Hid (r < w.heap.size ∧ w.heap.size ≤ w.heap.size) := Lib.hid ⟨by have := HH.out.lt; have := HB.out; omega, Nat.le_refl _⟩
      have FIN : Hid (Rt (wr.setCell ⟨r, 0, none⟩ (.slice al l.length cl)) r w.heap.size al cl l ∧ Kept (fun y => y = r) w (wr.setCell ⟨r, 0, none⟩ (.slice al l.length cl))) := Lib.hid (rt_set Q.out.2.2 Q.out.2.1 RL.out rx)
      have rz : wr.frozen? ⟨r, 0, none⟩ = false := frozen_of_row _ _ _ _ _ rx
      have lb : l.length ≤ 900000 := by have := List.length_filter_le (kpB p q all) M; rw [← TE.out, ← HN.out] at this; omega
      obtain ⟨nl, hnl⟩ : ∃ k, k = l.length := ⟨_, rfl⟩
      have NL := Lib.hid hnl
      rw [← hnl] at FIN lb ⊢
      clear rx hnl Q G
      go_wp2_with fail
      go_ret
      exact ⟨al, cl, by rw [← TE.out, ← NL.out]; rfl, by rw [← TE.out, ← NL.out] at *; exact FIN.out.1, FIN.out.2⟩
end Ac
end Go.Proofs.YthdofbjijpghfaaGreatDoor
