/-
  The document's Ahead.
-/
import Derived.Test.YthdofbjijpghfaaGreatDoorAkA
import Derived.Test.YthdofbjijpghfaaGreatDoorAcR
import Derived.BigQuiet
namespace Go.Proofs.YthdofbjijpghfaaGreatDoor
open Go.RowKit Go.Sort
namespace Ac
def aheadB (a b : ByteArray) : Bool := decide (cmP a b < 0)
theorem cmL_end {xs ys : List ByteArray} {i : Nat} (h0 : i ≤ xs.length) (h1 : i ≤ ys.length) (h : i = xs.length ∨ i = ys.length) : (cmL (xs.drop i) (ys.drop i) < 0) ↔ xs.length < ys.length := by
  by_cases a : i < xs.length
  · have e : i = ys.length := by omega
    have e2 : ys.drop i = [] := List.drop_eq_nil_of_le (by omega)
    have e1 : xs.drop i = xs.getD i ⟨#[]⟩ :: xs.drop (i + 1) := by rw [List.getD_eq_getElem?_getD, List.getElem?_eq_getElem a]; simp
    rw [e1, e2, cmL]
    constructor
    · intro h; simp at h
    · intro h; omega
  · have e1 : xs.drop i = [] := List.drop_eq_nil_of_le (by omega)
    by_cases b : i < ys.length
    · have e2 : ys.drop i = ys.getD i ⟨#[]⟩ :: ys.drop (i + 1) := by rw [List.getD_eq_getElem?_getD, List.getElem?_eq_getElem b]; simp
      rw [e1, e2, cmL]
      constructor
      · intro _; omega
      · intro _; decide
    · have e2 : ys.drop i = [] := List.drop_eq_nil_of_le (by omega)
      rw [e1, e2, cmL]
      constructor
      · intro h; simp at h
      · intro h; omega
theorem cmS_bool (x y : ByteArray) : decide (cmS x y < 0) = Op.bytesLess x.toList y.toList := by
  unfold cmS
  cases h : Op.bytesLess x.toList y.toList with
  | true => simp
  | false => simp only [Bool.false_eq_true, if_false]; split <;> simp
set_option maxHeartbeats 4000000 in
set_option maxRecDepth 100000 in
theorem refAhead_any (a b : ByteArray) (w : World) (ha : a.size ≤ 1048576) (hb : b.size ≤ 1048576) :
    Calls Tryz.prog 32 #[.string a, .string b] w fun e w' => e = .returned (.bool (aheadB a b)) ∧ Below w.heap.size w w' := by
  obtain ⟨RB, hRB⟩ : ∃ R, R = aheadB a b := ⟨_, rfl⟩
  rw [← hRB]
  have SA := Lib.hid (L.refSplit_any a w ha)
  have SB : Hid (∀ W, Calls Tryz.prog 53 #[.string b] W fun e w' => ∃ v, e = .returned (.tuple #[v, .int .i64 (L.splitE b)]) ∧ L.Strs w' v (L.splitT b) ∧ Below W.heap.size W w') := Lib.hid (fun W => L.refSplit_any b W hb)
  obtain ⟨xs, hxs⟩ : ∃ xs, xs = L.splitT a := ⟨_, rfl⟩
  obtain ⟨ys, hys⟩ : ∃ ys, ys = L.splitT b := ⟨_, rfl⟩
  have RR : Hid (RB = decide (cmL xs ys < 0)) := Lib.hid (by rw [hRB, hxs, hys]; rfl)
  rw [← hxs] at SA
  rw [← hys] at SB
  clear ha hb hRB hxs hys
  go_enter Tryz.func32, Tryz.ntmps32
  go_wp2_with fail
  refine SA.out.mono ?_
  rintro e w1 ⟨v1, rfl, h1, b1⟩
  obtain ⟨a1, c1, rfl, _, hm1⟩ := h1.len
  obtain ⟨n0, hn0⟩ : ∃ n, n = xs.length := ⟨_, rfl⟩
  rw [← hn0] at h1 ⊢
  have q0 : n0 ≤ 9223372036854775807 := by unfold maxLen at hm1; omega
  have O1 := Lib.hid (And.intro h1 (And.intro b1 hn0))
  clear h1 b1 hm1 hn0 SA
  go_wp2_with fail
  refine (SB.out w1).mono ?_
  rintro e w2 ⟨v2, rfl, h2, b2⟩
  obtain ⟨a2, c2, rfl, _, hm2⟩ := h2.len
  obtain ⟨n1, hn1⟩ : ∃ n, n = ys.length := ⟨_, rfl⟩
  rw [← hn1] at h2 ⊢
  have q1 : n1 ≤ 9223372036854775807 := by unfold maxLen at hm2; omega
  have O2 : Hid (L.Strs w2 (.slice a1 n0 c1) xs ∧ L.Strs w2 (.slice a2 n1 c2) ys ∧ Below w.heap.size w w2 ∧ n0 = xs.length ∧ n1 = ys.length) := Lib.hid ⟨O1.out.1.below b2, h2, O1.out.2.1.trans (b2.mono O1.out.2.1.size), O1.out.2.2, hn1⟩
  clear h2 b2 hm2 hn1 SB O1
  go_wp2_with fail
  go_loopg [9] n0 (fun gg si wr => ∃ i : Nat, i ≤ n0 ∧ i ≤ n1 ∧ gg = n0 - i ∧ si = .int .i64 i ∧ Hid (Below w2.heap.size w2 wr ∧ RB = decide (cmL (xs.drop i) (ys.drop i) < 0)))
  case atStart => exact ⟨0, by omega, by omega, rfl, rfl, Lib.hid ⟨Below.refl _ _, by rw [RR.out]; simp⟩⟩
  case round =>
    clear RR
    obtain ⟨i, hi0, hi1, hg, rfl, Q⟩ := hrel
    have G := Lib.hid hg
    clear hg
    by_cases k0 : i < n0
    · have k0' : (i : Int) < (n0 : Int) := by omega
      have d0 : decide ((i : Int) < (n0 : Int)) = true := decide_eq_true k0'
      have d0n : decide (i < n0) = true := decide_eq_true k0
      by_cases k1 : i < n1
      · have k1' : (i : Int) < (n1 : Int) := by omega
        have d1 : decide ((i : Int) < (n1 : Int)) = true := decide_eq_true k1'
        have d1n : decide (i < n1) = true := decide_eq_true k1
        have dz : decide ((i : Int) < 0) = false := decide_eq_false (by omega)
        obtain ⟨bb, off, ea, pc⟩ := (O2.out.1.below Q.out.1).at i (by rw [← O2.out.2.2.2.1]; exact k0)
        obtain ⟨bb1, off1, ea1, pc1⟩ := (O2.out.2.1.below Q.out.1).at i (by rw [← O2.out.2.2.2.2]; exact k1)
        subst ea ea1
        obtain ⟨x, hx⟩ : ∃ x, x = xs.getD i ⟨#[]⟩ := ⟨_, rfl⟩
        obtain ⟨y, hy⟩ : ∃ y, y = ys.getD i ⟨#[]⟩ := ⟨_, rfl⟩
        rw [← hx] at pc
        rw [← hy] at pc1
        have ST : Hid (RB = if cmS x y = 0 then decide (cmL (xs.drop (i + 1)) (ys.drop (i + 1)) < 0) else decide (cmS x y < 0)) := Lib.hid (by
          rw [Q.out.2, cmL_drop (by rw [← O2.out.2.2.2.1]; exact k0) (by rw [← O2.out.2.2.2.2]; exact k1), ← hx, ← hy]
          split <;> rfl)
        clear hx hy
        by_cases he : x = y
        · subst he
          have e1 : (x.toList == x.toList) = true := beq_self_eq_true _
          have e2 : (x.toList != x.toList) = false := bne_self_eq_false _
          have SE : Hid (RB = decide (cmL (xs.drop (i + 1)) (ys.drop (i + 1)) < 0)) := Lib.hid (by rw [ST.out, if_pos ((cmS_zero x x).2 rfl)])
          go_wp2_with fail
          go_quiet (fail)
          go_wp2_with fail
          go_roundg (n0 - (i + 1))
          case measure => have := G.out; omega
          case rel => exact ⟨i + 1, by omega, by omega, rfl, by go_num, Lib.hid ⟨Q.out.1.trans ((below_drawn wr _).mono Q.out.1.size), SE.out⟩⟩
        · have e1 := teq_no he
          have e2 : (x.toList != y.toList) = true := by rw [bne, e1]; rfl
          have SE : Hid (RB = Op.bytesLess x.toList y.toList) := Lib.hid (by rw [ST.out, if_neg (fun h => he ((cmS_zero x y).1 h)), cmS_bool])
          clear he
          go_wp2_with fail
          go_quiet (fail)
          go_wp2_with fail
          go_quiet (fail)
          go_wp2_with fail
          go_ret
          exact ⟨by rw [SE.out]; rfl, O2.out.2.2.1.trans (((Q.out.1.trans ((below_drawn wr _).mono Q.out.1.size)).trans ((below_drawn _ _).mono (Q.out.1.trans ((below_drawn wr _).mono Q.out.1.size)).size)).mono O2.out.2.2.1.size)⟩
      · have k1' : ¬ (i : Int) < (n1 : Int) := by omega
        have d1 : decide ((i : Int) < (n1 : Int)) = false := decide_eq_false k1'
        have d1n : decide (i < n1) = false := decide_eq_false k1
        have SE : Hid (RB = decide (n0 < n1)) := Lib.hid (by rw [Q.out.2]; exact decide_eq_decide.2 (by rw [O2.out.2.2.2.1, O2.out.2.2.2.2]; exact cmL_end (by rw [← O2.out.2.2.2.1]; exact hi0) (by rw [← O2.out.2.2.2.2]; exact hi1) (Or.inr (by rw [← O2.out.2.2.2.2]; omega))))
        go_wp2_with fail
        go_ret
        exact ⟨by rw [SE.out]; simp, O2.out.2.2.1.trans (Q.out.1.mono O2.out.2.2.1.size)⟩
    · have k0' : ¬ (i : Int) < (n0 : Int) := by omega
      have d0 : decide ((i : Int) < (n0 : Int)) = false := decide_eq_false k0'
      have d0n : decide (i < n0) = false := decide_eq_false k0
      have SE : Hid (RB = decide (n0 < n1)) := Lib.hid (by rw [Q.out.2]; exact decide_eq_decide.2 (by rw [O2.out.2.2.2.1, O2.out.2.2.2.2]; exact cmL_end (by rw [← O2.out.2.2.2.1]; exact hi0) (by rw [← O2.out.2.2.2.2]; exact hi1) (Or.inl (by rw [← O2.out.2.2.2.1]; omega))))
      go_wp2_with fail
      go_ret
      exact ⟨by rw [SE.out]; simp, O2.out.2.2.1.trans (Q.out.1.mono O2.out.2.2.1.size)⟩
end Ac
end Go.Proofs.YthdofbjijpghfaaGreatDoor
