/-
  The law's ends, made; two sides apart.
-/
import Derived.Test.YtojemioophlplaaSdE
namespace Go.Proofs.Ytojemioophlplaa
open Go.RowKit Go.Maps
namespace Rf
variable {B : Nat} {w0 w w' W W' : World} {p q : Nat} {F G : Nat → Prop} {n m : Nat}
theorem Sd.more (h : Sd w0 w p F n) (hm : n ≤ m) : Sd w0 w p F m := by
  obtain ⟨⟨d, mb, mp, cv, x, bv, lv, kv, s, r, h1, h2, h3, h4, h5⟩, hb⟩ := h
  exact ⟨⟨d, mb, mp, cv, x, bv, lv, kv, s, r, h1, h2, by omega, by omega, h5⟩, hb⟩
/-- Behind some steps. -/
def SdM (w0 w : World) (p : Nat) (F : Nat → Prop) (W : World) (m : Nat) : Prop := ∃ F', Sd w0 W p F' m ∧ Kept F w W ∧ ∀ k, F' k → F k ∨ w.heap.size ≤ k
theorem SdM.start (h : Sd w0 w p F n) : SdM w0 w p F w n := ⟨F, h, Kept.refl _ _, fun _ e => .inl e⟩
theorem SdM.more (h : SdM w0 w p F W n) (hm : n ≤ m) : SdM w0 w p F W m := by
  obtain ⟨F', h1, h2, h3⟩ := h
  exact ⟨F', h1.more hm, h2, h3⟩
theorem kept_two {F' : Nat → Prop} (h2 : Kept F w W) (h3 : ∀ k, F' k → F k ∨ w.heap.size ≤ k) (hk : Kept F' W W') : Kept F w W' :=
  ⟨hk.os.trans h2.os, hk.tape.trans h2.tape, hk.output.trans h2.output, Nat.le_trans h2.size hk.size, fun k hk1 hn => by
    rw [hk.block k (Nat.lt_of_lt_of_le hk1 h2.size) (fun e => by rcases h3 k e with q | q; exact hn q; omega)]
    exact h2.block k hk1 hn⟩
theorem SdM.asks (h : SdM w0 w p F W m) (hm : m ≤ 1100000) (o : OpD) : Calls Try.prog 25 #[.pointer (some ⟨p, 0, none⟩), .agg o.cells.toArray] W fun e w' => e = .returned (.bool true) ∧ SdM w0 w p F w' (m + 1) := by
  obtain ⟨F', h1, h2, h3⟩ := h
  refine (asks_any o w0 W p F' m h1 hm).mono ?_
  rintro e w' ⟨rfl, F'', g1, g2, g3⟩
  exact ⟨rfl, F'', g1, kept_two h2 h3 g2, fun k e => (g3 k e).elim (h3 k) (fun q => .inr (Nat.le_trans h2.size q))⟩
theorem SdM.plays (h : SdM w0 w p F W m) (hm : m ≤ 1100000) (o : OpD) (ho : o.At w0) : Calls Try.prog 5 #[.pointer (some ⟨p, 0, none⟩), .agg o.cells.toArray] W fun e w' => e = .returned (.bool true) ∧ SdM w0 w p F w' (m + 1) := by
  obtain ⟨F', h1, h2, h3⟩ := h
  refine (plays_any o w0 W p F' m h1 hm ho).mono ?_
  rintro e w' ⟨rfl, F'', g1, g2, g3⟩
  exact ⟨rfl, F'', g1, kept_two h2 h3 g2, fun k e => (g3 k e).elim (h3 k) (fun q => .inr (Nat.le_trans h2.size q))⟩
theorem c8_zero : c8 0 = 0 := by decide
theorem SdM.asks0 (h : SdM w0 w p F W m) (hm : m ≤ 1100000) (k : Int) : Calls Try.prog 25 #[.pointer (some ⟨p, 0, none⟩), .agg #[.bool false, .int .i64 k, .int .i64 0, .int .i64 0, .int .i64 0, .int .u8 0, .slice none 0 0, .slice none 0 0]] W fun e w' => e = .returned (.bool true) ∧ SdM w0 w p F w' (m + 1) := by
  have e := h.asks hm ⟨false, k, 0, 0, 0, 0, .slice none 0 0, [], .slice none 0 0, []⟩
  unfold OpD.cells at e
  simp only [c8_zero] at e
  exact e
set_option maxHeartbeats 4000000 in
theorem ends_any (H : Sd w0 w p F n) (hn : n ≤ 1050000) : Calls Try.prog 6 #[.pointer (some ⟨p, 0, none⟩)] w fun e w' => e = .returned (.bool true) ∧ SdM w0 w p F w' (n + 12) := by
  have H0 : Hid (SdM w0 w p F w (n + 1)) := Lib.hid ((SdM.start H).more (by omega))
  have NN := Lib.hid hn
  clear H hn
  go_enter Try.func6, Try.ntmps6
  go_wp2_with fail
  go_loopg [3] 11 (fun gg si wr => ∃ k : Nat, 1 ≤ k ∧ k ≤ 12 ∧ gg = 12 - k ∧ si = .int .i64 k ∧ Hid (SdM w0 w p F wr (n + k)))
  case atStart => exact ⟨1, by omega, by omega, rfl, rfl, H0⟩
  case round =>
    clear H0
    obtain ⟨k, hk1, hk2, hg, rfl, S⟩ := hrel
    have G := Lib.hid hg
    clear hg
    by_cases hlt : k ≤ 11
    · have hlt' : (k : Int) ≤ 11 := by omega
      by_cases ha : k = 5 ∨ k = 7 ∨ k = 10 ∨ k = 11
      · have AS := Lib.hid (SdM.asks0 S.out (by have := NN.out; omega) (k : Int))
        rcases ha with rfl | rfl | rfl | rfl
        · go_wp2_with fail
          refine AS.out.mono ?_
          rintro e w1 ⟨rfl, hs⟩
          have S1 := Lib.hid hs
          clear hs AS S
          go_wp2_with fail
          go_roundg (6)
          case measure => have := G.out; omega
          case rel => exact ⟨6, by omega, by omega, rfl, by go_num, S1⟩
        · go_wp2_with fail
          refine AS.out.mono ?_
          rintro e w1 ⟨rfl, hs⟩
          have S1 := Lib.hid hs
          clear hs AS S
          go_wp2_with fail
          go_roundg (4)
          case measure => have := G.out; omega
          case rel => exact ⟨8, by omega, by omega, rfl, by go_num, S1⟩
        · go_wp2_with fail
          refine AS.out.mono ?_
          rintro e w1 ⟨rfl, hs⟩
          have S1 := Lib.hid hs
          clear hs AS S
          go_wp2_with fail
          go_roundg (1)
          case measure => have := G.out; omega
          case rel => exact ⟨11, by omega, by omega, rfl, by go_num, S1⟩
        · go_wp2_with fail
          refine AS.out.mono ?_
          rintro e w1 ⟨rfl, hs⟩
          have S1 := Lib.hid hs
          clear hs AS S
          go_wp2_with fail
          go_roundg (0)
          case measure => have := G.out; omega
          case rel => exact ⟨12, by omega, by omega, rfl, by go_num, S1⟩
      · have g5 : ((k : Int) == 5) = false := by rw [beq_eq_false_iff_ne]; omega
        have g7 : ((k : Int) == 7) = false := by rw [beq_eq_false_iff_ne]; omega
        have g10 : ((k : Int) == 10) = false := by rw [beq_eq_false_iff_ne]; omega
        have g11 : ((k : Int) == 11) = false := by rw [beq_eq_false_iff_ne]; omega
        have S1 := Lib.hid (S.out.more (m := n + (k + 1)) (by omega))
        clear ha S
        go_wp2_with fail
        go_roundg (12 - (k + 1))
        case measure => have := G.out; omega
        case rel => exact ⟨k + 1, by omega, by omega, rfl, by go_num, S1⟩
    · have e12 : k = 12 := by omega
      subst e12
      go_wp2_with fail
      go_ret
      exact ⟨rfl, S.out⟩
end Rf
end Go.Proofs.Ytojemioophlplaa
