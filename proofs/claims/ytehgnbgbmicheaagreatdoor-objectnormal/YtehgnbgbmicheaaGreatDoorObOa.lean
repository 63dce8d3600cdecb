/-
  The law's copies: ownAmounts.
-/
import Derived.Test.YtehgnbgbmicheaaGreatDoorObU
namespace Go.Proofs.YtehgnbgbmicheaaGreatDoor
open Go.RowKit
set_option maxHeartbeats 4000000 in
set_option maxRecDepth 100000 in
theorem ownAmounts_any (v : Value) (l : List Am) (w : World) (hv : Row kAm w v l) (hl : l.length * 24 ≤ 140737488355328) :
    Calls Tryz.prog 19 #[v] w fun e w' => ∃ a n c, e = .returned (.slice a n c) ∧ OwnR kAm w.heap.size w' (.slice a n c) l ∧ Below w.heap.size w w' := by
  have V := Lib.hid hv
  obtain ⟨a, cap, rfl, hlc, hcm⟩ := hv.len
  unfold maxLen at hcm
  obtain ⟨n, hn⟩ : ∃ n, n = l.length := ⟨_, rfl⟩
  rw [← hn] at hlc hl V ⊢
  have HN := Lib.hid hn
  clear hv hn
  go_enter Tryz.func19, Tryz.ntmps19
  go_wp2_with fail
  go_loopg [3, 4] n (fun gg so si wr => ∃ (k : Nat) (a' : Option Addr) (m c : Nat), k ≤ n ∧ gg = n - k ∧ si = .int .i64 k ∧ so = .slice a' m c ∧ OwnR kAm w.heap.size wr (.slice a' m c) (l.take k) ∧ Below w.heap.size w wr)
  case atStart => exact ⟨0, none, 0, 0, Nat.zero_le _, rfl, rfl, rfl, OwnR.nil _ _ _, Below.refl _ _⟩
  case round =>
    obtain ⟨k, a', m, c, hk, hg, rfl, rfl, ho, hb⟩ := hrel
    have R : Aside (gk = n - k ∧ OwnR kAm w.heap.size wr (.slice a' m c) (l.take k) ∧ Below w.heap.size w wr) := ⟨hg, ho, hb⟩
    clear hg ho hb
    by_cases hlt : k < n
    · have hlt' : (k : Int) < (n : Int) := by omega
      obtain ⟨b, off, rfl, pc⟩ := (V.out.below R.out.2.2).at k (by rw [← HN.out]; exact hlt)
      have ST := Lib.hid (take_onez l k kAm.z (by rw [← HN.out]; exact hlt))
      obtain ⟨x, hx⟩ : ∃ x, x = l.getD k kAm.z := ⟨_, rfl⟩
      rw [← hx] at pc ST
      obtain ⟨xn, xv⟩ := x
      have c0 : wr.cell? ⟨b, off + k * 2, none⟩ = some (.string xn) := pc 0 _ rfl
      have c1 : wr.cell? ⟨b, off + k * 2 + 1, none⟩ = some (.int .i64 xv) := pc 1 _ rfl
      have LN : Hid (((l.take k).length + 1) * kAm.b ≤ 140737488355328) := Lib.hid (by rw [List.length_take]; show (min k l.length + 1) * 24 ≤ 140737488355328; omega)
      clear pc hx
      obtain ⟨acc, hacc⟩ : ∃ acc, acc = l.take k := ⟨_, rfl⟩
      rw [← hacc] at ST LN R
      clear hacc
      go_wp2_with (at_builtin; refine app_rowB okAm (gg := wr.heap.size) rfl _ _ rfl rfl R.out.2.1 R.out.2.2.size ⟨xn, xv⟩ ?hgg rfl rfl LN.out ?_)
      case hgg => simp
      intro v' w' h1 h2
      obtain ⟨a2, c2, rfl⟩ := h1.slice
      have A : Aside (OwnR kAm w.heap.size w' (.slice a2 (acc ++ [(⟨xn, xv⟩ : Am)]).length c2) (l.take (k + 1)) ∧ Below w.heap.size w w') := by
        refine ⟨?_, R.out.2.2.trans (grown_belowR h2 R.out.2.1 R.out.2.2.size)⟩
        rw [ST.out]; exact h1
      clear h1 h2
      go_wp2_with fail
      go_roundg (n - (k + 1))
      case measure => have := R.out.1; omega
      case rel => exact ⟨k + 1, a2, _, c2, by omega, rfl, by go_num, rfl, A.out.1, A.out.2⟩
    · have E : Aside (l.take k = l) := List.take_of_length_le (by rw [← HN.out]; omega)
      go_wp2_with fail
      go_ret
      exact ⟨a', m, c, rfl, by have := R.out.2.1; rw [E.out] at this; exact this, R.out.2.2⟩
end Go.Proofs.YtehgnbgbmicheaaGreatDoor
