/-
  The laws' hands: sameAmounts, sameObject of the same; small.
-/
import Derived.Test.YtehgnbgbmicheaaGreatDoorObU
import Derived.Lib.QuietBelow
import Derived.BigQuiet
namespace Go.Proofs.YtehgnbgbmicheaaGreatDoor
open Go.RowKit
open Go.Sort (grow)
theorem reg {w : World} {a : Addr} {v : Value} (h : w.cell? a = some v) : ∀ (dq : Nat) (os : Array Obj), (grow (redrawn w dq) os).cell? a = some v := fun dq os => cell_regrown h dq os
set_option maxHeartbeats 4000000 in
set_option maxRecDepth 100000 in
theorem sameAmounts_yes (u u' : Value) (l : List Am) (w : World) (hu : Row kAm w u l) (hu' : Row kAm w u' l) :
    Calls Tryz.prog 20 #[u, u'] w fun e w' => e = .returned (.bool true) ∧ Below w.heap.size w w' := by
  have U := Lib.hid hu
  have U' := Lib.hid hu'
  obtain ⟨a, cap, rfl, hlc, hcm⟩ := hu.len
  obtain ⟨a', cap', rfl, hlc', hcm'⟩ := hu'.len
  unfold maxLen at hcm hcm'
  obtain ⟨n, hn⟩ : ∃ n, n = l.length := ⟨_, rfl⟩
  rw [← hn] at hlc hlc' U U' ⊢
  have HN := Lib.hid hn
  clear hu hu' hn
  go_enter Tryz.func20, Tryz.ntmps20
  go_wp2_with fail
  go_loopg [5] n (fun g si wr => ∃ (k : Nat), k ≤ n ∧ g = n - k ∧ si = .int .i64 k ∧ Below w.heap.size w wr)
  case atStart => exact ⟨0, Nat.zero_le _, rfl, rfl, Below.refl _ _⟩
  case round =>
    obtain ⟨k, hk, hg, rfl, hb⟩ := hrel
    have R : Aside (gk = n - k ∧ Below w.heap.size w wr) := ⟨hg, hb⟩
    clear hg hb
    by_cases hlt : k < n
    · have hlt' : (k : Int) < (n : Int) := by omega
      obtain ⟨b, off, rfl, pc⟩ := (U.out.below R.out.2).at k (by rw [← HN.out]; exact hlt)
      obtain ⟨b', off', rfl, pc'⟩ := (U'.out.below R.out.2).at k (by rw [← HN.out]; exact hlt)
      obtain ⟨⟨xn, xv⟩, hx⟩ : ∃ x, x = l.getD k kAm.z := ⟨_, rfl⟩
      rw [← hx] at pc pc'
      have p0 : wr.cell? ⟨b, off + k * 2, none⟩ = some (.string xn) := pc 0 _ rfl
      have p1 : wr.cell? ⟨b, off + k * 2 + 1, none⟩ = some (.int .i64 xv) := pc 1 _ rfl
      have q0 : wr.cell? ⟨b', off' + k * 2, none⟩ = some (.string xn) := pc' 0 _ rfl
      have q1 : wr.cell? ⟨b', off' + k * 2 + 1, none⟩ = some (.int .i64 xv) := pc' 1 _ rfl
      have r0 := reg p0
      have r1 := reg p1
      have s0 := reg q0
      have s1 := reg q1
      have g0 : (xn.toList == xn.toList) = true := by simp
      have xB : Hid (∀ (dq : Nat) (os : Array Obj), Below wr.heap.size wr (grow (redrawn wr dq) os)) := Lib.hid fun dq os => below_regrown wr dq os
      clear hx pc pc' p0 p1 q0 q1
      go_wp2_with fail
      refine wp_region_quiet_below (by kernel_rfl) (by kernel_rfl) ?_
      repeat (go_big_quiet_step (fail))
      refine wpQuiet_nil ?_
      intro _ hw'
      obtain ⟨⟨dq, osq⟩, hw''⟩ := hw'
      subst hw''
      have xx := Lib.hid (R.out.2.trans ((xB.out dq osq).mono R.out.2.size))
      clear r0 r1 s0 s1 xB
      obtain ⟨W, hW⟩ : ∃ W, W = grow (redrawn wr dq) osq := ⟨_, rfl⟩
      rw [← hW] at xx ⊢
      clear hW
      go_wp2_with fail
      go_roundg (n - (k + 1))
      case measure => have := R.out.1; omega
      case rel => exact ⟨k + 1, by omega, rfl, by go_num, xx.out⟩
    · go_wp2_with fail
      go_ret
      exact ⟨rfl, R.out.2⟩
end Go.Proofs.YtehgnbgbmicheaaGreatDoor
