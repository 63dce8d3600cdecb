/-
  The document's Drop, Leave, May.
-/
import Derived.Test.YthdofbjijpghfaaGreatDoorAkH
import Derived.Test.YthdofbjijpghfaaGreatDoorAkI
namespace Go.Proofs.YthdofbjijpghfaaGreatDoor
open Go.RowKit Go.Sort
namespace Ac
theorem Rt.row {w : World} {r B : Nat} {a : Option Addr} {c : Nat} {M : List Bv} (h : Rt w r B a c M) {B' : Nat} (hB : B' ≤ B) (hr : r < B') : Rt w r B' a c M := h.mono hB hr
/-- What goes. -/
def goN (M : List Bv) (p q : ByteArray) (all : Bool) : Int := (M.length : Int) - ((M.filter (kpB p q all)).length : Int)
theorem goN_nat (M : List Bv) (p q : ByteArray) (all : Bool) : 0 ≤ goN M p q all := by
  unfold goN
  have := List.length_filter_le (kpB p q all) M
  omega
set_option maxHeartbeats 4000000 in
set_option maxRecDepth 100000 in
theorem refLeave_any (p : ByteArray) (w : World) (r B : Nat) (a : Option Addr) (c : Nat) (M : List Bv) (H : Rt w r B a c M) (hB : B ≤ w.heap.size) (hl : M.length ≤ 900000) :
    Calls Tryz.prog 15 #[.pointer (some ⟨r, 0, none⟩), .string p] w fun e w' => ∃ (a' : Option Addr) (c' : Nat), e = .returned (.int .i64 (goN M p ⟨#[]⟩ true)) ∧ Rt w' r w.heap.size a' c' (M.filter (kpB p ⟨#[]⟩ true)) ∧ Kept (fun y => y = r) w w' := by
  have WO := Lib.hid (refWithout_any p ⟨#[]⟩ true w r B a c M H hB hl)
  clear H hB hl
  obtain ⟨k, hk⟩ : ∃ k, k = goN M p ⟨#[]⟩ true := ⟨_, rfl⟩
  rw [show ((M.length : Int) - ((M.filter (kpB p ⟨#[]⟩ true)).length : Int)) = k from hk.symm] at WO
  rw [← hk]
  clear hk
  go_enter Tryz.func15, Tryz.ntmps15
  go_wp2_with fail
  refine WO.out.mono ?_
  rintro e w1 ⟨a', c', rfl, h1, h2⟩
  have O1 := Lib.hid (And.intro h1 h2)
  clear h1 h2 WO
  go_wp2_with fail
  go_ret
  exact ⟨a', c', rfl, O1.out.1, O1.out.2⟩
/-- What the document's Drop tells. -/
def DpQ (w : World) (r : Nat) (M : List Bv) (p q : ByteArray) (e : Ending) (w' : World) : Prop :=
  ∃ k : Int, e = .returned (.int .i64 k) ∧ ((L.splitE p ≠ 0 ∧ k = 41 ∧ Below w.heap.size w w') ∨ (L.splitE p = 0 ∧ k = (if goN M p q false = 0 then 191 else 0) ∧ ∃ (a' : Option Addr) (c' : Nat), Rt w' r w.heap.size a' c' (M.filter (kpB p q false)) ∧ Kept (fun y => y = r) w w'))
set_option maxHeartbeats 4000000 in
set_option maxRecDepth 100000 in
theorem refDrop_any (p q : ByteArray) (w : World) (r B : Nat) (a : Option Addr) (c : Nat) (M : List Bv) (H : Rt w r B a c M) (hB : B ≤ w.heap.size) (hl : M.length ≤ 900000) (hp : p.size ≤ 1048576) :
    Calls Tryz.prog 13 #[.pointer (some ⟨r, 0, none⟩), .string p, .string q] w (DpQ w r M p q) := by
  have HH := Lib.hid H
  have HB := Lib.hid hB
  have WO : Hid (∀ W, Below w.heap.size w W → Calls Tryz.prog 35 #[.pointer (some ⟨r, 0, none⟩), .string p, .string q, .bool false] W fun e w' => ∃ (a' : Option Addr) (c' : Nat), e = .returned (.int .i64 (goN M p q false)) ∧ Rt w' r W.heap.size a' c' (M.filter (kpB p q false)) ∧ Kept (fun y => y = r) W w') := Lib.hid (fun W hW => refWithout_any p q false W r B a c M (HH.out.below hW) (Nat.le_trans HB.out hW.size) hl)
  have PA := Lib.hid (L.refPath_any p w hp)
  obtain ⟨pe, hpe⟩ : ∃ pe, pe = L.splitE p := ⟨_, rfl⟩
  have PE := Lib.hid hpe
  rw [← hpe] at PA
  obtain ⟨k, hk⟩ : ∃ k, k = goN M p q false := ⟨_, rfl⟩
  have HK := Lib.hid hk
  rw [← hk] at WO
  clear hpe hk H hB hl hp
  go_enter Tryz.func13, Tryz.ntmps13
  go_wp2_with fail
  refine PA.out.mono ?_
  rintro e w1 ⟨rfl, hb⟩
  have B1 := Lib.hid hb
  clear hb PA
  by_cases h0 : pe = 0
  · subst h0
    go_wp2_with fail
    refine (WO.out w1 B1.out).mono ?_
    rintro e w2 ⟨a', c', rfl, h1, h2⟩
    have O2 : Hid (Rt w2 r w.heap.size a' c' (M.filter (kpB p q false)) ∧ Kept (fun y => y = r) w w2) := Lib.hid ⟨h1.mono B1.out.size (by have := HH.out.lt; have := HB.out; omega), (Below.kept B1.out _).trans h2 (fun _ _ e => e)⟩
    clear h1 h2 WO
    by_cases hk : k = 0
    · subst hk
      go_wp2_with fail
      go_ret
      exact ⟨191, rfl, Or.inr ⟨PE.out.symm, by rw [← HK.out]; rfl, a', c', O2.out⟩⟩
    · have g0 : (k == 0) = false := by rw [beq_eq_false_iff_ne]; exact hk
      go_wp2_with fail
      go_ret
      exact ⟨0, rfl, Or.inr ⟨PE.out.symm, by rw [← HK.out, if_neg hk], a', c', O2.out⟩⟩
  · have g0 : (pe != 0) = true := by rw [bne_iff_ne]; exact h0
    go_wp2_with fail
    go_ret
    exact ⟨41, rfl, Or.inl ⟨by rw [← PE.out]; exact h0, rfl, B1.out⟩⟩
/-- What the document's May tells. -/
def Mq (M : List Bv) (u : ByteArray) (v : Int) (path : ByteArray) (b : Bool) : Prop :=
  (¬ (0 ≤ v ∧ v ≤ 3 ∧ L.splitE path = 0) ∧ b = false) ∨ ((0 ≤ v ∧ v ≤ 3 ∧ L.splitE path = 0) ∧ ∃ q, Wq M u v path q ∧ b = (q.1 || (u.toList == [114, 111, 111, 116])))
def MaQ (w : World) (M : List Bv) (u : ByteArray) (v : Int) (path : ByteArray) (e : Ending) (w' : World) : Prop :=
  ∃ b : Bool, e = .returned (.bool b) ∧ Mq M u v path b ∧ Below w.heap.size w w'
set_option maxHeartbeats 4000000 in
set_option maxRecDepth 100000 in
theorem refMay_any (u : ByteArray) (v : Int) (path : ByteArray) (w : World) (r B : Nat) (a : Option Addr) (c : Nat) (M : List Bv) (H : Rt w r B a c M) (hl : M.length ≤ 900000) (hs : path.size ≤ 1048576) (hp : ∀ y ∈ M, y.1.p.size ≤ 1048576) :
    Calls Tryz.prog 19 #[.pointer (some ⟨r, 0, none⟩), .string u, .int .i64 v, .string path] w (MaQ w M u v path) := by
  have HH := Lib.hid H
  have WH : Hid (∀ W, Below w.heap.size w W → Calls Tryz.prog 17 #[.pointer (some ⟨r, 0, none⟩), .string u, .int .i64 v, .string path] W fun e w' => ∃ q : Bool × Bd, e = .returned (.tuple #[q.2.val, .bool q.1]) ∧ Wq M u v path q ∧ Below W.heap.size W w') := Lib.hid (fun W hW => refWhy_any u v path W r B a c M (HH.out.below hW) hl hs hp)
  have PA := Lib.hid (L.refPath_any path w hs)
  obtain ⟨pe, hpe⟩ : ∃ pe, pe = L.splitE path := ⟨_, rfl⟩
  have PE := Lib.hid hpe
  rw [← hpe] at PA
  clear hpe H hl hs hp
  by_cases h1 : v < 0
  · have d1 : decide (v < 0) = true := decide_eq_true h1
    go_enter Tryz.func19, Tryz.ntmps19
    go_wp2_with fail
    go_ret
    exact ⟨false, rfl, Or.inl ⟨fun h => by omega, rfl⟩, Below.refl _ _⟩
  · have d1 : decide (v < 0) = false := decide_eq_false h1
    by_cases h3 : v > 3
    · have d3 : decide (v > 3) = true := decide_eq_true h3
      go_enter Tryz.func19, Tryz.ntmps19
      go_wp2_with fail
      go_ret
      exact ⟨false, rfl, Or.inl ⟨fun h => by omega, rfl⟩, Below.refl _ _⟩
    · have d3 : decide (v > 3) = false := decide_eq_false h3
      go_enter Tryz.func19, Tryz.ntmps19
      go_wp2_with fail
      refine PA.out.mono ?_
      rintro e w1 ⟨rfl, hb⟩
      have B1 := Lib.hid hb
      clear hb PA
      by_cases h0 : pe = 0
      · have EP : Hid (0 ≤ v ∧ v ≤ 3 ∧ L.splitE path = 0) := Lib.hid ⟨by omega, by omega, by rw [← PE.out]; exact h0⟩
        subst h0
        go_wp2_with fail
        refine (WH.out w1 B1.out).mono ?_
        rintro e w2 ⟨⟨fo, ⟨zp, zn, zs, zv⟩⟩, rfl, hq, hb2⟩
        have O2 : Hid (Wq M u v path (fo, ⟨zp, zn, zs, zv⟩) ∧ Below w.heap.size w w2) := Lib.hid ⟨hq, B1.out.trans (hb2.mono B1.out.size)⟩
        clear hq hb2 WH
        unfold Bd.val
        simp only
        obtain ⟨ub, hub⟩ : ∃ ub, ub = (u.toList == [114, 111, 111, 116]) := ⟨_, rfl⟩
        have UB := Lib.hid hub
        have hub' := hub.symm
        clear hub
        cases fo with
        | true =>
          go_wp2_with fail
          go_ret
          exact ⟨true, rfl, Or.inr ⟨EP.out, _, O2.out.1, rfl⟩, O2.out.2.alloc O2.out.2.size _⟩
        | false =>
          go_wp2_with fail
          go_ret
          exact ⟨ub, rfl, Or.inr ⟨EP.out, _, O2.out.1, by rw [UB.out]; rfl⟩, O2.out.2.alloc O2.out.2.size _⟩
      · have g0 : (pe != 0) = true := by rw [bne_iff_ne]; exact h0
        go_wp2_with fail
        go_ret
        exact ⟨false, rfl, Or.inl ⟨fun h => h0 (by rw [PE.out]; exact h.2.2), rfl⟩, B1.out⟩
end Ac
end Go.Proofs.YthdofbjijpghfaaGreatDoor
