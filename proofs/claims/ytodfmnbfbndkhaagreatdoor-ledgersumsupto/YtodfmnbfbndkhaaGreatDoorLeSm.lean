/-
  The laws' hands: sameRows of the same; Count.
-/
import Derived.Test.YtodfmnbfbndkhaaGreatDoorLeW
import Derived.Lib.QuietBelow
import Derived.BigQuiet
namespace Go.Proofs.YtodfmnbfbndkhaaGreatDoor
open Go.RowKit
open Go.Sort (grow)
namespace Le
set_option maxHeartbeats 4000000 in
set_option maxRecDepth 100000 in
theorem sameRows_yes (u u' : Value) (l : List Ur) (w : World) (hu : Row kUse w u l) (hu' : Row kUse w u' l) :
    Calls Tryz.prog 13 #[u, u'] w fun e w' => e = .returned (.bool true) ∧ Below w.heap.size w w' := by
  have U := Lib.hid hu
  have U' := Lib.hid hu'
  obtain ⟨a, cap, rfl, hlc, hcm⟩ := hu.len
  obtain ⟨a', cap', rfl, hlc', hcm'⟩ := hu'.len
  unfold maxLen at hcm hcm'
  obtain ⟨n, hn⟩ : ∃ n, n = l.length := ⟨_, rfl⟩
  rw [← hn] at hlc hlc' U U' ⊢
  have HN := Lib.hid hn
  clear hu hu' hn
  go_enter Tryz.func13, Tryz.ntmps13
  go_wp2_with fail
  go_loopg [5] n (fun g si wr => ∃ (k : Nat), k ≤ n ∧ g = n - k ∧ si = .int .i64 k ∧ Below w.heap.size w wr)
  case atStart => exact ⟨0, Nat.zero_le _, rfl, rfl, Below.refl _ _⟩
  case round =>
    obtain ⟨k, hk, hg, rfl, hb⟩ := hrel
    have R : Aside (gk = n - k ∧ Below w.heap.size w wr) := ⟨hg, hb⟩
    clear hg hb
    by_cases hlt : k < n
    · have hlt' : (k : Int) < (n : Int) := by omega
      obtain ⟨b, off, rfl, pc⟩ := (U.out.below R.out.2).at k (by rw [← HN.out]; exact hlt)
      obtain ⟨b', off', rfl, pc'⟩ := (U'.out.below R.out.2).at k (by rw [← HN.out]; exact hlt)
      obtain ⟨⟨⟨⟨xp, xk, xa, xr⟩, xv⟩, xz⟩, hx⟩ : ∃ x, x = l.getD k kUse.z := ⟨_, rfl⟩
      rw [← hx] at pc pc'
      have p0 : wr.cell? ⟨b, off + k * 5, none⟩ = some (.string xp) := pc 0 _ rfl
      have p1 : wr.cell? ⟨b, off + k * 5 + 1, none⟩ = some (.int .i64 xk) := pc 1 _ rfl
      have p2 : wr.cell? ⟨b, off + k * 5 + 2, none⟩ = some (.int .i64 xa) := pc 2 _ rfl
      have p3 : wr.cell? ⟨b, off + k * 5 + 3, none⟩ = some (.string xr) := pc 3 _ rfl
      have p4 : wr.cell? ⟨b, off + k * 5 + 4, none⟩ = some (.int .i64 xv) := pc 4 _ rfl
      have q0 : wr.cell? ⟨b', off' + k * 5, none⟩ = some (.string xp) := pc' 0 _ rfl
      have q1 : wr.cell? ⟨b', off' + k * 5 + 1, none⟩ = some (.int .i64 xk) := pc' 1 _ rfl
      have q2 : wr.cell? ⟨b', off' + k * 5 + 2, none⟩ = some (.int .i64 xa) := pc' 2 _ rfl
      have q3 : wr.cell? ⟨b', off' + k * 5 + 3, none⟩ = some (.string xr) := pc' 3 _ rfl
      have q4 : wr.cell? ⟨b', off' + k * 5 + 4, none⟩ = some (.int .i64 xv) := pc' 4 _ rfl
      have r0 := reg p0
      have r1 := reg p1
      have r2 := reg p2
      have r3 := reg p3
      have r4 := reg p4
      have s0 := reg q0
      have s1 := reg q1
      have s2 := reg q2
      have s3 := reg q3
      have s4 := reg q4
      have g0 : (xp.toList == xp.toList) = true := by simp
      have g1 : (xr.toList == xr.toList) = true := by simp
      have xB : Hid (∀ (dq : Nat) (os : Array Obj), Below wr.heap.size wr (grow (redrawn wr dq) os)) := Lib.hid fun dq os => below_regrown wr dq os
      clear hx pc pc' p0 p1 p2 p3 p4 q0 q1 q2 q3 q4 xz
      go_wp2_with fail
      refine wp_region_quiet_below (by kernel_rfl) (by kernel_rfl) ?_
      repeat (go_big_quiet_step (fail))
      refine wpQuiet_nil ?_
      intro _ hw'
      obtain ⟨⟨dq, osq⟩, hw''⟩ := hw'
      subst hw''
      have xx := Lib.hid (R.out.2.trans ((xB.out dq osq).mono R.out.2.size))
      clear r0 r1 r2 r3 r4 s0 s1 s2 s3 s4 xB
      obtain ⟨W, hW⟩ : ∃ W, W = grow (redrawn wr dq) osq := ⟨_, rfl⟩
      rw [← hW] at xx ⊢
      clear hW
      go_wp2_with fail
      go_roundg (n - (k + 1))
      case measure => have := R.out.1; omega
      case rel => exact ⟨k + 1, by omega, rfl, by go_num, xx.out⟩
    · go_wp2_with fail
      go_ret
      exact ⟨rfl, R.out.2⟩
def tCnt : ByteArray := ⟨#[99, 111, 117, 110, 116]⟩
theorem fit_cnt {p : ByteArray} (hp : p.size ≤ maxLen) : Ky.Fit ⟨p, 0, 0, tCnt⟩ := ⟨hp, (by decide : tCnt.size ≤ maxLen), (by decide : In6 0), (by decide : In6 0)⟩
set_option maxHeartbeats 4000000 in
set_option maxRecDepth 100000 in
theorem count_any {w : World} {t b n : Nat} {D : DataW Unit} {f : Ky → Int} (p : ByteArray) (H : Ld w t b n D) (R : Rep D f) (hp : p.size ≤ maxLen) :
    Calls Tryz.prog 19 #[.pointer (some ⟨t, 0, none⟩), .string p] w fun e w' => e = .returned (.int .i64 (f ⟨p, 0, 0, tCnt⟩ / 1000)) ∧ Below w.heap.size w w' := by
  have U := Lib.hid (used_any (w := w) ⟨p, 0, 0, tCnt⟩ H R (fit_cnt hp))
  have F := Lib.hid (R.rng ⟨p, 0, 0, tCnt⟩)
  obtain ⟨v, hv⟩ : ∃ v, v = f ⟨p, 0, 0, tCnt⟩ := ⟨_, rfl⟩
  rw [← hv] at U F ⊢
  clear H R hv
  simp only [tCnt] at U
  go_enter Tryz.func19, Tryz.ntmps19
  go_wp2_with fail
  refine U.out.mono ?_
  rintro e w1 ⟨rfl, hb⟩
  have B := Lib.hid hb
  clear hb U
  go_wp2_with fail
  go_ret
  refine ⟨?_, B.out⟩
  have e : wrap64 (v.tdiv 1000) = v / 1000 := by
    have := F.out
    unfold MX at this
    rw [Int.tdiv_eq_ediv_of_nonneg this.1]
    unfold wrap64
    omega
  rw [← e]
  rfl
end Le
end Go.Proofs.YtodfmnbfbndkhaaGreatDoor
