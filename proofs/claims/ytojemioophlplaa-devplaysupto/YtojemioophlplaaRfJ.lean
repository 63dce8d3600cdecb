/-
  THE DOCUMENT'S DEVICE: Of.
-/
import Derived.Test.YtojemioophlplaaRfG
namespace Go.Proofs.Ytojemioophlplaa
open Go.RowKit Go.Maps
namespace Rf
variable {B B' n : Nat} {w w' w1 w7 : World} {x : Nat} {bv lv kv v7 : Value} {s s' : RD} {y : Ly}
set_option maxHeartbeats 4000000 in
theorem rof_ok (v : Value) (m : List UInt8) (k : Nat) (w : World) (hv : Bytes w v m) (hm : m.length = 512 * k) (h1 : 64 ≤ k) (h2 : k ≤ 4096) :
    Calls Try.prog 23 #[v] w fun e w' => ∃ x bv, e = .returned (.tuple #[.pointer (some ⟨x, 0, none⟩), .int .i64 0]) ∧ w.heap.size ≤ x ∧ Below w.heap.size w w' ∧ Rd w.heap.size w' x bv (.slice none 0 0) (.slice none 0 0) (newR k m) := by
  have CP := Lib.hid (copied_any v m w hv (by omega))
  obtain ⟨av, cap, rfl, hlc, hcm⟩ := hv.len
  unfold maxLen at hcm
  obtain ⟨N, hN⟩ : ∃ N, N = m.length := ⟨_, rfl⟩
  have MM := Lib.hid hm
  have e1 : ((N : Int)) % 512 = 0 := by omega
  have e2 : ((N : Int)) / 512 = (k : Int) := by omega
  have f1 : ((N : Int)).tmod 512 = 0 := by rw [Int.tmod_eq_emod_of_nonneg (by omega)]; exact e1
  have f2 : ((N : Int)).tdiv 512 = (k : Int) := by rw [Int.tdiv_eq_ediv_of_nonneg (by omega)]; exact e2
  rw [← hN] at hlc CP ⊢
  have K2 := Lib.hid (And.intro h1 h2)
  have g1 : decide ((k : Int) < 64) = false := decide_eq_false (by omega)
  have g2 : decide ((k : Int) > 4096) = false := decide_eq_false (by omega)
  clear hv hN hm
  go_enter Try.func23, Try.ntmps23
  go_wp2_with fail
  refine CP.out.mono ?_
  rintro e w1 ⟨v', rfl, ho, hb⟩
  obtain ⟨ad, c, rfl⟩ := own_slice ho
  have R1 := Lib.hid (And.intro ho hb)
  clear ho hb CP
  go_wp2_with fail
  go_ret2
  refine ⟨w1.heap.size, .slice ad m.length c, rfl, R1.out.2.size, R1.out.2.alloc R1.out.2.size _, ?_, ?_, OwnR.nil _ _ _, OwnR.nil _ _ _, fun y hy => by simp [newR] at hy, fun y hy => by simp [newR] at hy, K2.out, .inr MM.out, R1.out.2.size, fun k e => by simp [Value.ownBlock] at e⟩
  · rw [heap_alloc_new]
    rfl
  · exact R1.out.1.below ((Below.refl _ _).alloc (Nat.le_refl _) _)
end Rf
end Go.Proofs.Ytojemioophlplaa
