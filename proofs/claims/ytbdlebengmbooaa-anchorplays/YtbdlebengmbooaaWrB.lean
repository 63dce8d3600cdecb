/-
  Write, of everything.
-/
import Derived.Test.YtbdlebengmbooaaWrA
namespace Go.Proofs.Ytbdlebengmbooaa
open Go.RowKit Go.Maps
set_option maxRecDepth 100000 in
set_option maxHeartbeats 1000000 in
theorem write_any2 {B : Nat} {w : World} {d mb mp : Nat} {cv : Value} {s : DS} (h : Dv B w d mb mp cv s) (i : Int) (v : Value) (p : List UInt8) (hvd : ∀ w', Kept (fun k => k = d) w w' → Bytes w' v p) (hws : s.ws < 4611686018427387904) (hcl : s.cache.length < 137438953472) :
    Calls Try.prog 28 #[.pointer (some ⟨d, 0, none⟩), .int .i64 i, v] w fun e w' => ∃ cv', e = .returned (.int .i64 (wrE s i p).2) ∧ Dv B w' d mb mp cv' (wrE s i p).1 ∧ Kept (Foot d mb mp cv) w w' ∧ At cv cv' w := by
  have hv := hvd w (Kept.refl _ _)
  obtain ⟨av, cap, rfl, hlc, hcm⟩ := hv.len
  unfold maxLen at hcm
  have HH := Lib.hid (has_any h i)
  have H := Lib.hid h
  cases hb : hasB s i with
  | false =>
    have E : Hid (wrE s i p = (s, 60)) := Lib.hid (by unfold wrE; rw [if_pos hb])
    rw [hb] at HH
    clear h hv hvd
    go_enter Try.func28, Try.ntmps28
    go_wp2_with fail
    refine HH.out.mono ?_
    rintro e w0 ⟨rfl, rfl⟩
    go_wp2_with fail
    go_ret
    rw [E.out]
    exact ⟨cv, rfl, H.out, Kept.refl _ _, At.refl _ _⟩
  | true =>
    by_cases hp : p.length = 512
    · by_cases ha : (actD s).2 = 0
      · obtain ⟨k, rfl, hk⟩ := hasB_nat hb
        have E : wrE s k p = (addW (actD s).1 k p, 0) := by
          unfold wrE
          rw [if_neg (by rw [hb]; exact Bool.noConfusion), if_neg (by rw [hp]; exact fun h => h rfl), if_neg (by rw [ha]; exact fun h => h rfl), Int.toNat_natCast]
        rw [E]
        exact write_ok2 h k hk _ p hp hv hvd hws hcl ha
      · have E : Hid (wrE s i p = actD s) := Lib.hid (by
          unfold wrE
          rw [if_neg (by rw [hb]; exact Bool.noConfusion), if_neg (by rw [hp]; exact fun h => h rfl), if_pos ha])
        have AC := Lib.hid (act_any h)
        have g : ((actD s).2 == 0) = false := by rw [beq_eq_false_iff_ne]; exact ha
        rw [hb] at HH
        rw [hp] at hlc ⊢
        obtain ⟨r, hrr⟩ : ∃ r, r = (actD s).2 := ⟨_, rfl⟩
        rw [← hrr] at g AC
        have RR := Lib.hid hrr
        clear h hv hvd hrr ha hp
        go_enter Try.func28, Try.ntmps28
        go_wp2_with fail
        refine HH.out.mono ?_
        rintro e w0 ⟨rfl, rfl⟩
        go_wp2_with fail
        refine AC.out.mono ?_
        rintro e w1 ⟨rfl, hd1, hk1⟩
        have D1 := Lib.hid (And.intro hd1 hk1)
        clear hd1 hk1 AC HH
        go_wp2_with fail
        go_ret
        rw [E.out]
        exact ⟨cv, by rw [← RR.out]; rfl, D1.out.1, D1.out.2.mono (fun j _ h => .inl h), At.refl _ _⟩
    · have E : Hid (wrE s i p = (s, 61)) := Lib.hid (by
        unfold wrE
        rw [if_neg (by rw [hb]; exact Bool.noConfusion), if_pos hp])
      have g : ((p.length : Int) == 512) = false := by rw [beq_eq_false_iff_ne]; omega
      rw [hb] at HH
      obtain ⟨n, hn⟩ : ∃ n, n = p.length := ⟨_, rfl⟩
      rw [← hn] at g hlc ⊢
      clear h hv hvd hp hn
      go_enter Try.func28, Try.ntmps28
      go_wp2_with fail
      refine HH.out.mono ?_
      rintro e w0 ⟨rfl, rfl⟩
      go_wp2_with fail
      go_ret
      rw [E.out]
      exact ⟨cv, rfl, H.out, Kept.refl _ _, At.refl _ _⟩
theorem write_any {B : Nat} {w : World} {d mb mp : Nat} {cv : Value} {s : DS} (h : Dv B w d mb mp cv s) (i : Int) (v : Value) (p : List UInt8) (hvd : ∀ w', Kept (fun k => k = d) w w' → Bytes w' v p) (hws : s.ws < 137438953472) :
    Calls Try.prog 28 #[.pointer (some ⟨d, 0, none⟩), .int .i64 i, v] w fun e w' => ∃ cv', e = .returned (.int .i64 (wrE s i p).2) ∧ Dv B w' d mb mp cv' (wrE s i p).1 ∧ Kept (Foot d mb mp cv) w w' ∧ At cv cv' w := write_any2 h i v p hvd (by omega) (by have := h.fit.ws; omega)
end Go.Proofs.Ytbdlebengmbooaa
