/-
  The document's New.
-/
import Derived.Test.YtfdhccanacpanaaRfC
namespace Go.Proofs.Ytfdhccanacpanaa
open Go.RowKit
theorem ris_length {a b : Int} {t : List Int} (h : Ris a b t) (hab : a ≤ b) : (t.length : Int) ≤ b - a := by
  induction t generalizing a with
  | nil => simp; omega
  | cons x t ih =>
    have h1 := h.1
    have h2 := h.2.1
    have := ih h.2.2 (by omega)
    rw [List.length_cons]
    omega
set_option maxHeartbeats 1000000 in
theorem rnew_bad (b f : Int) (v : Value) (w : World) (h : b < 0 ∨ 4096 < b ∨ f < 0 ∨ b < f) :
    Calls Try.prog 22 #[.int .i64 b, .int .i64 f, v] w fun e w' => e = .returned (.tuple #[.pointer none, .int .i64 1]) ∧ w' = w := by
  go_enter Try.func22, Try.ntmps22
  by_cases h1 : b < 0
  · have g1 : decide (b < 0) = true := decide_eq_true h1
    clear h h1
    go_wp2_with fail
    go_ret2
    exact ⟨rfl, rfl⟩
  · have g1 : decide (b < 0) = false := decide_eq_false h1
    by_cases h2 : 4096 < b
    · have g2 : decide (b > 4096) = true := decide_eq_true h2
      clear h h1 h2
      go_wp2_with fail
      go_ret2
      exact ⟨rfl, rfl⟩
    · have g2 : decide (b > 4096) = false := decide_eq_false h2
      by_cases h3 : f < 0
      · have g3 : decide (f < 0) = true := decide_eq_true h3
        clear h h1 h2 h3
        go_wp2_with fail
        go_ret2
        exact ⟨rfl, rfl⟩
      · have g3 : decide (f < 0) = false := decide_eq_false h3
        have g4 : decide (f > b) = true := decide_eq_true (by omega)
        clear h h1 h2 h3
        go_wp2_with fail
        go_ret2
        exact ⟨rfl, rfl⟩
set_option maxHeartbeats 4000000 in
theorem rnew_any (f n : Nat) (v : Value) (t : List Int) (w : World) (hf : f + n ≤ 4096) (hv : Ints w v t) (ht : ∀ x ∈ t, -9223372036854775808 ≤ x ∧ x < 9223372036854775808) (b : Int) (eb : b = ((f + n : Nat) : Int)) :
    Calls Try.prog 22 #[.int .i64 b, .int .i64 f, v] w fun e w' =>
      (Ris (f : Int) ((f + n : Nat) : Int) t → ∃ d vw vn, e = .returned (.tuple #[.pointer (some ⟨d, 0, none⟩), .int .i64 0]) ∧ Rs w.heap.size w' d f vw vn (mkS f n t)) ∧
      (¬ Ris (f : Int) ((f + n : Nat) : Int) t → e = .returned (.tuple #[.pointer none, .int .i64 1])) ∧ Below w.heap.size w w' := by
  have HV := Lib.hid hv
  rw [← eb]
  have g1 : decide (b < 0) = false := decide_eq_false (by omega)
  have g2 : decide (b > 4096) = false := decide_eq_false (by omega)
  have g3 : decide ((f : Int) < 0) = false := decide_eq_false (by omega)
  have g4 : decide ((f : Int) > b) = false := decide_eq_false (by omega)
  have EB := Lib.hid eb
  have hb1 : (f : Int) ≤ b := by omega
  have hb2 : b ≤ 4096 := by omega
  obtain ⟨av, cap, rfl, hlc, hcm, hc⟩ := ints_none _ _ _ hv
  obtain ⟨N, hN⟩ : ∃ N, N = t.length := ⟨_, rfl⟩
  have HC : Hid (∀ k, k < N → ∃ b off, av = some ⟨b, off, none⟩ ∧ w.cell? ⟨b, off + k, none⟩ = some (.int .i64 (t.getD k 0))) := Lib.hid (by rw [hN]; exact hc)
  rw [← hN] at hlc HV ⊢
  have NN := Lib.hid hN
  have HT := Lib.hid ht
  have HF := Lib.hid hf
  clear hN hc ht hv eb hf
  go_enter Try.func22, Try.ntmps22
  go_wp2_with fail
  clear g1 g2 g3 g4
  go_loopg [8] N (fun g si wr => ∃ (k : Nat) (la : Int), k ≤ N ∧ g = N - k ∧ si = .int .i64 k ∧ (f : Int) - 1 ≤ la ∧ (0 < k → la = t.getD (k - 1) 0) ∧ (k = 0 → la = (f : Int) - 1) ∧ (Ris (f : Int) b t ↔ Ris (la + 1) b (t.drop k)) ∧ Below w.heap.size w wr)
  case atStart => exact ⟨0, (f : Int) - 1, Nat.zero_le _, rfl, rfl, by omega, fun h => by omega, fun _ => rfl, by rw [List.drop_zero, Int.sub_add_cancel], Below.refl _ _⟩
  case round =>
    obtain ⟨k, la, hk, hg, rfl, hla, hl1, hl0, hr, hbl⟩ := hrel
    have G := Lib.hid hg
    have R := Lib.hid hr
    have Bl := Lib.hid hbl
    clear hg hr hbl
    by_cases hlt : k < N
    · have hlt' : (k : Int) < (N : Int) := by omega
      obtain ⟨b0, off, ha, c1⟩ := HC.out k hlt
      have c2 := (Bl.out.cell (block_lt_of_cell c1)).trans c1
      obtain ⟨x, hx⟩ : ∃ x, x = t.getD k 0 := ⟨_, rfl⟩
      rw [← hx] at c2
      have hkt : k < t.length := by rw [← NN.out]; exact hlt
      have ex : t[k]? = some x := by rw [hx, List.getD_eq_getElem?_getD, List.getElem?_eq_getElem hkt, Option.getD_some]
      have ed : t.drop k = x :: t.drop (k + 1) := by
        rw [List.drop_eq_getElem_cons hkt]
        congr 1
        rw [List.getElem?_eq_getElem hkt] at ex
        simpa using ex
      have R' : Hid (Ris (f : Int) b t ↔ (la + 1 ≤ x ∧ x < b ∧ Ris (x + 1) b (t.drop (k + 1)))) := Lib.hid (by rw [R.out, ed]; exact Iff.rfl)
      have LX : Hid (x = t.getD (k + 1 - 1) 0) := Lib.hid (by rw [Nat.add_sub_cancel]; exact hx)
      clear hx hkt ex ed c1 R
      have NXT : Hid (∀ W, Below w.heap.size w W → ¬ x < (f : Int) → x < b → la < x → ∃ (k' : Nat) (la : Int), k' ≤ N ∧ N - (k + 1) = N - k' ∧ Value.int .i64 ((k : Int) + 1) = .int .i64 k' ∧ (f : Int) - 1 ≤ la ∧ (0 < k' → la = t.getD (k' - 1) 0) ∧ (k' = 0 → la = (f : Int) - 1) ∧ (Ris (f : Int) b t ↔ Ris (la + 1) b (t.drop k')) ∧ Below w.heap.size w W) := Lib.hid (fun W hW q1 q2 q3 => by
        refine ⟨k + 1, x, by omega, rfl, by congr 1, by omega, fun _ => LX.out, fun h => by omega, ?_, hW⟩
        rw [R'.out]
        exact ⟨fun h => h.2.2, fun h => ⟨by omega, q2, h⟩⟩)
      by_cases hz : k = 0
      · have hla0 := hl0 hz
        have g3 : decide ((k : Int) > 0) = false := decide_eq_false (by omega)
        have g6 : decide (0 < k) = false := decide_eq_false (by omega)
        subst ha
        clear hl0 hl1
        by_cases q1 : x < (f : Int)
        · have f1 : decide (x < (f : Int)) = true := decide_eq_true q1
          clear hz
          go_wp2_with fail
          go_quiet (fail)
          go_wp2_with fail
          go_ret2
          refine ⟨fun h => ?_, fun _ => rfl, Bl.out.trans ((below_drawn _ _).mono Bl.out.size)⟩
          have := (R'.out.1 h).1
          omega
        · have f1 : decide (x < (f : Int)) = false := decide_eq_false q1
          by_cases q2 : x < b
          · have f2 : decide (x ≥ b) = false := decide_eq_false (by omega)
            have f2' : decide (b ≤ x) = false := decide_eq_false (by omega)
            clear hz
            go_wp2_with fail
            go_quiet (fail)
            go_wp2_with fail
            go_roundg (N - (k + 1))
            case measure => have := G.out; omega
            case rel => exact NXT.out _ (Bl.out.trans ((below_drawn _ _).mono Bl.out.size)) q1 q2 (by omega)
          · have f2 : decide (x ≥ b) = true := decide_eq_true (by omega)
            have f2' : decide (b ≤ x) = true := decide_eq_true (by omega)
            clear hz
            go_wp2_with fail
            go_quiet (fail)
            go_wp2_with fail
            go_ret2
            refine ⟨fun h => ?_, fun _ => rfl, Bl.out.trans ((below_drawn _ _).mono Bl.out.size)⟩
            have := (R'.out.1 h).2.1
            omega
      · obtain ⟨j, hj⟩ : ∃ j, k = j + 1 := ⟨k - 1, by omega⟩
        have hla1 := hl1 (by omega)
        obtain ⟨b1, off1, ha1, p1⟩ := HC.out j (by omega)
        rw [ha] at ha1
        simp only [Option.some.injEq, Addr.mk.injEq, and_true] at ha1
        obtain ⟨rfl, rfl⟩ := ha1
        subst ha
        have r1 := (Bl.out.cell (block_lt_of_cell p1)).trans p1
        rw [show t.getD j 0 = la by rw [hla1, hj, Nat.add_sub_cancel]] at r1
        have HJ := Lib.hid hj
        clear p1 hl0 hl1 hla1
        subst hj
        have g3 : decide (((j + 1 : Nat) : Int) > 0) = true := decide_eq_true (by omega)
        have es : ((j + 1 : Nat) : Int) - 1 = (j : Int) := by omega
        have hj2 : (j : Int) < (N : Int) := by omega
        by_cases q1 : x < (f : Int)
        · have f1 : decide (x < (f : Int)) = true := decide_eq_true q1
          clear hz
          go_wp2_with fail
          go_quiet (fail)
          go_wp2_with fail
          go_ret2
          refine ⟨fun h => ?_, fun _ => rfl, Bl.out.trans ((below_drawn _ _).mono Bl.out.size)⟩
          have := (R'.out.1 h).1
          omega
        · have f1 : decide (x < (f : Int)) = false := decide_eq_false q1
          by_cases q2 : x < b
          · have f2 : decide (x ≥ b) = false := decide_eq_false (by omega)
            have f2' : decide (b ≤ x) = false := decide_eq_false (by omega)
            by_cases q3 : x ≤ la
            · have f3 : decide (x ≤ la) = true := decide_eq_true q3
              clear hz
              go_wp2_with fail
              go_quiet (fail)
              go_wp2_with fail
              go_ret2
              refine ⟨fun h => ?_, fun _ => rfl, Bl.out.trans ((below_drawn _ _).mono Bl.out.size)⟩
              have := (R'.out.1 h).1
              omega
            · have f3 : decide (x ≤ la) = false := decide_eq_false q3
              clear hz
              go_wp2_with fail
              go_quiet (fail)
              go_wp2_with fail
              go_roundg (N - (j + 1 + 1))
              case measure => have := G.out; omega
              case rel => exact NXT.out _ (Bl.out.trans ((below_drawn _ _).mono Bl.out.size)) q1 q2 (by omega)
          · have f2 : decide (x ≥ b) = true := decide_eq_true (by omega)
            have f2' : decide (b ≤ x) = true := decide_eq_true (by omega)
            clear hz
            go_wp2_with fail
            go_quiet (fail)
            go_wp2_with fail
            go_ret2
            refine ⟨fun h => ?_, fun _ => rfl, Bl.out.trans ((below_drawn _ _).mono Bl.out.size)⟩
            have := (R'.out.1 h).2.1
            omega
    · have hge : ¬ (k : Int) < (N : Int) := by omega
      have RI : Hid (Ris (f : Int) b t) := Lib.hid (by
        rw [R.out, List.drop_eq_nil_of_le (by rw [← NN.out]; omega)]; trivial)
      have TL : Hid (t.length ≤ 4096) := Lib.hid (by have := ris_length RI.out hb1; omega)
      have C1 := Lib.hid (copied_any _ t wr (HV.out.below Bl.out) TL.out)
      clear R hl0 hl1
      go_wp2_with fail
      refine C1.out.mono ?_
      rintro _ w1 ⟨u1, rfl, o1, b1⟩
      have B1 := Lib.hid (Bl.out.trans (b1.mono Bl.out.size))
      have O1 := Lib.hid (o1.mono Bl.out.size)
      have C2 := Lib.hid (copied_any _ t w1 (HV.out.below B1.out) TL.out)
      obtain ⟨a1, n1, c1, e1⟩ := slice_of o1
      subst e1
      clear o1 b1 C1
      go_wp2_with fail
      refine C2.out.mono ?_
      rintro _ w2 ⟨u2, rfl, o2, b2⟩
      have B2 := Lib.hid (B1.out.trans (b2.mono B1.out.size))
      have O2 := Lib.hid (And.intro (O1.out.below b2) (o2.mono B1.out.size))
      obtain ⟨a2, n2, c2, e2⟩ := slice_of o2
      subst e2
      clear o2 b2 C2 O1
      go_wp2_with fail
      go_ret2
      have bX : Below w2.heap.size w2 (w2.alloc (.cells #[.int .i64 b, .int .i64 (f : Int), .slice a1 n1 c1, .slice a2 n2 c2] 62)) := (Below.refl _ _).alloc (Nat.le_refl _) _
      refine ⟨fun _ => ⟨w2.heap.size, .slice a1 n1 c1, .slice a2 n2 c2, rfl, ?_⟩, fun h => absurd RI.out h, B2.out.trans (bX.mono B2.out.size)⟩
      have ms := mk_sets f n t (by rw [← EB.out]; exact RI.out)
      refine ⟨?_, ?_, ?_, by rw [mkS_length]; have := HF.out; omega, by have := HF.out; omega, mkS_sts _ _ _, B2.out.size⟩
      · rw [heap_alloc_new, mkS_length, ← EB.out]
      · rw [ms.2]; exact O2.out.1.below bX
      · rw [ms.1]; exact O2.out.2.below bX
end Go.Proofs.Ytfdhccanacpanaa
