/-
  The document's Parse.
-/
import Derived.Test.YtibjmmfodelhjaaDoorScL
namespace Go.Proofs.YtibjmmfodelhjaaDoor
open Go.RowKit
theorem mem_all {k a : Int} (h : validB k a = true) : (k, a) ∈ allS := by
  rcases scope_cases k a h with ⟨rfl, rfl⟩ | ⟨rfl, rfl⟩ | ⟨rfl, rfl⟩ | ⟨rfl, rfl⟩ | ⟨rfl, rfl⟩ | ⟨rfl, rfl⟩ | ⟨rfl, rfl⟩ | ⟨rfl, rfl⟩ | ⟨rfl, rfl⟩ | ⟨rfl, rfl⟩ | ⟨rfl, rfl⟩ | ⟨rfl, rfl⟩ | ⟨rfl, rfl⟩ | ⟨rfl, rfl⟩ | ⟨rfl, rfl⟩ <;> simp [allS]
theorem all_valid : ∀ s ∈ allS, validB s.1 s.2 = true := by decide
theorem all_len : allS.length = 15 := rfl
set_option maxHeartbeats 4000000 in
set_option maxRecDepth 100000 in
theorem refParse_any (t : ByteArray) (w : World) :
    Calls Tryd.prog 22 #[.string t] w fun e w' => ∃ k a er, e = .returned (.tuple #[.agg #[.int .i64 k, .int .i64 a], .int .i64 er]) ∧ ParR t k a er ∧ Below w.heap.size w w' := by
  obtain ⟨X, hX⟩ : ∃ X, X = w.alloc (.cells #[.int .i64 0, .int .i64 0] 41) := ⟨_, rfl⟩
  have XX : Hid (X = w.alloc (.cells #[.int .i64 0, .int .i64 0] 41) ∧ X.heap.size = w.heap.size + 1) := Lib.hid ⟨hX, by rw [hX]; simp⟩
  have AL := Lib.hid (all_any (w.alloc (.cells #[.int .i64 0, .int .i64 0] 41)))
  clear hX
  go_enter Tryd.func22, Tryd.ntmps22
  go_wp2_with fail
  refine AL.out.mono ?_
  rintro e w1 ⟨la, ln, lc, rfl, ho, hb⟩
  have en : ln = 15 := by obtain ⟨a, c, e⟩ := ho.slice; simp only [Value.slice.injEq] at e; rw [e.2.1]; rfl
  subst en
  have L1 : Hid (Row kSc w1 (.slice la 15 lc) allS ∧ Below (w.heap.size + 1) X w1) := Lib.hid ⟨ho.row okSc, by rw [XX.out.1]; exact hb.mono (by simp)⟩
  clear ho hb AL
  go_wp2_with fail
  go_loopg [5] 15 (fun g si wr => ∃ (i : Nat), i ≤ 15 ∧ g = 15 - i ∧ si = .int .i64 i ∧ (∀ s ∈ allS.take i, printT s.1 s.2 ≠ t) ∧ Below w1.heap.size w1 wr)
  case atStart => exact ⟨0, by omega, rfl, rfl, by simp, Below.refl _ _⟩
  case round =>
    obtain ⟨i, hi, hg, rfl, hn, hb⟩ := hrel
    have R : Hid (gk = 15 - i ∧ (∀ s ∈ allS.take i, printT s.1 s.2 ≠ t) ∧ Below w1.heap.size w1 wr) := Lib.hid ⟨hg, hn, hb⟩
    clear hg hn hb
    by_cases hlt : i < 15
    · have hlt' : (i : Int) < 15 := by omega
      have hil : i < allS.length := hlt
      obtain ⟨b, off, rfl, pc⟩ := (L1.out.1.below R.out.2.2).at i hil
      have VV : Hid (validB (allS.getD i kSc.z).1 (allS.getD i kSc.z).2 = true) := Lib.hid (all_valid _ (getD_in hil))
      have TK := Lib.hid (take_onez allS i kSc.z hil)
      obtain ⟨⟨k, a⟩, hx⟩ : ∃ x, x = allS.getD i kSc.z := ⟨_, rfl⟩
      rw [← hx] at pc VV TK
      simp only at VV
      have c0 : wr.cell? ⟨b, off + i * 2, none⟩ = some (.int .i64 k) := pc 0 _ rfl
      have c1 : wr.cell? ⟨b, off + i * 2 + 1, none⟩ = some (.int .i64 a) := pc 1 _ rfl
      clear pc hx hil
      obtain ⟨pt, hpt⟩ : ∃ pt, pt = printT k a := ⟨_, rfl⟩
      have PT := Lib.hid hpt
      have PR : Hid (Calls Tryd.prog 24 #[.agg #[.int .i64 k, .int .i64 a]] wr fun e w' => e = .returned (.tuple #[.string pt, .int .i64 0]) ∧ Below wr.heap.size wr w') := Lib.hid (by
        have q := refPrint_any k a wr
        rw [(pr_yes VV.out).1, (pr_yes VV.out).2, ← hpt] at q
        exact q)
      clear hpt
      go_wp2_with fail
      refine PR.out.mono ?_
      rintro e w3 ⟨rfl, hb3⟩
      have d0 : w3.cell? ⟨b, off + i * 2, none⟩ = some (.int .i64 k) := (hb3.cell (block_lt_of_cell c0)).trans c0
      have d1 : w3.cell? ⟨b, off + i * 2 + 1, none⟩ = some (.int .i64 a) := (hb3.cell (block_lt_of_cell c1)).trans c1
      have B3 : Hid (Below w1.heap.size w1 w3) := Lib.hid (R.out.2.2.trans (hb3.mono R.out.2.2.size))
      clear hb3 PR c0 c1
      have S1 : Hid (w.heap.size + 1 ≤ w1.heap.size) := Lib.hid (by have := L1.out.2.size; have := XX.out.2; omega)
      by_cases heq : pt = t
      · have ge := teq_yes heq
        obtain ⟨e0, e1, f0, f1, eb⟩ := two_scope w XX.out.1 (L1.out.2.trans (B3.out.mono S1.out))
        have EB := Lib.hid eb
        have FR : Hid (ParR t k a 0) := Lib.hid (Or.inl ⟨rfl, VV.out, by rw [← PT.out]; exact heq⟩)
        clear eb heq
        go_wp2_with fail
        refine bodyPost_ret (v := .tuple #[.agg #[.int .i64 k, .int .i64 a], .int .i64 0]) ?_ rfl ?_
        · rw [results_cell_tmp rfl]
          go_simp
        · exact ⟨k, a, 0, rfl, FR.out, (EB.out.setCell (p := ⟨w.heap.size, 0, none⟩) (Nat.le_refl _) _).setCell (p := ⟨w.heap.size, 1, none⟩) (Nat.le_refl _) _⟩
      · have ge := teq_no heq
        have NN : Hid (∀ s ∈ allS.take (i + 1), printT s.1 s.2 ≠ t) := Lib.hid (by
          rw [TK.out]
          intro s hs
          rcases List.mem_append.1 hs with q | q
          · exact R.out.2.1 s q
          · simp only [List.mem_singleton] at q
            subst q
            rw [← PT.out]; exact heq)
        clear heq
        go_wp2_with fail
        go_roundg (15 - (i + 1))
        case measure => have := R.out.1; omega
        case rel => exact ⟨i + 1, by omega, rfl, by go_num, NN.out, B3.out⟩
    · have ei : i = 15 := by omega
      subst ei
      have S1 : Hid (w.heap.size + 1 ≤ w1.heap.size) := Lib.hid (by have := L1.out.2.size; have := XX.out.2; omega)
      obtain ⟨e0, e1, f0, f1, eb⟩ := two_scope w XX.out.1 (L1.out.2.trans (R.out.2.2.mono S1.out))
      have EB := Lib.hid eb
      have FR : Hid (ParR t 0 0 150) := Lib.hid (Or.inr ⟨rfl, rfl, rfl, fun k' a' hv => R.out.2.1 _ (mem_all hv)⟩)
      clear eb
      go_wp2_with fail
      refine bodyPost_ret (v := .tuple #[.agg #[.int .i64 0, .int .i64 0], .int .i64 150]) ?_ rfl ?_
      · rw [results_cell_tmp rfl]
        go_simp
      · exact ⟨0, 0, 150, rfl, FR.out, (EB.out.setCell (p := ⟨w.heap.size, 0, none⟩) (Nat.le_refl _) _).setCell (p := ⟨w.heap.size, 1, none⟩) (Nat.le_refl _) _⟩
/-- No two scopes have one text. -/
theorem print_inj : ∀ s ∈ allS, ∀ u ∈ allS, (printT s.1 s.2).data.toList = (printT u.1 u.2).data.toList → s = u := by decide
theorem ParR.one {t : ByteArray} {k a e k' a' e' : Int} (h : ParR t k a e) (h' : ParR t k' a' e') : k = k' ∧ a = a' ∧ e = e' := by
  rcases h with ⟨rfl, hv, hp⟩ | ⟨rfl, rfl, rfl, hn⟩
  · rcases h' with ⟨rfl, hv', hp'⟩ | ⟨rfl, rfl, rfl, hn'⟩
    · have := print_inj _ (mem_all hv) _ (mem_all hv') (by rw [hp, hp'])
      simp only [Prod.mk.injEq] at this
      exact ⟨this.1, this.2, rfl⟩
    · exact absurd hp (hn' k a hv)
  · rcases h' with ⟨rfl, hv', hp'⟩ | ⟨rfl, rfl, rfl, hn'⟩
    · exact absurd hp' (hn k' a' hv')
    · exact ⟨rfl, rfl, rfl⟩
end Go.Proofs.YtibjmmfodelhjaaDoor
