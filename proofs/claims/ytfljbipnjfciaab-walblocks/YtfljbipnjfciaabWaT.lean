/-
  Open.
-/
import Derived.Test.YtfljbipnjfciaabWaR
namespace Go.Proofs.Ytfljbipnjfciaab
open Go.RowKit Go.Maps
variable {B : Nat} {w W W' : World} {d mb mp : Nat} {cv : Value} {ds : DS}
/-- A log that has just been opened, ahead of the scan. -/
def ls0 (fst n ep fs fa : Nat) : LS := ⟨fst, n, ep, fs, fa, fs, fa, [], 0, false⟩
structure OkO (ds : DS) (fst n ep fs fa : Nat) : Prop where
  n1 : 8 ≤ n
  n2 : n ≤ 512
  f1 : fst + n ≤ ds.n
  e1 : 1 ≤ ep
  e2 : ep ≤ 1152921504606846976
  s1 : 1 ≤ fs
  s2 : fs ≤ 1152921504606846976
  a1 : fa < n
theorem ls0_fit {fst n ep fs fa : Nat} (h : OkO ds fst n ep fs fa) (hd : ds.n ≤ 4096) : LFit (ls0 fst n ep fs fa) := by
  obtain ⟨q1, q2, q3, q4, q5, q6, q7, q8⟩ := h
  refine ⟨q1, q2, ?_, q4, q5, q6, Nat.le_refl _, ?_, ?_, q8, ?_, ?_, ?_, ?_⟩
  · show fst + n ≤ 4096
    omega
  · show fs ≤ fs + n
    omega
  · show fs ≤ _
    omega
  · show fa = (fa + (fs - fs)) % n
    rw [Nat.sub_self, Nat.add_zero, Nat.mod_eq_of_lt q8]
  all_goals (unfold ls0; simp)
set_option maxRecDepth 100000 in
set_option maxHeartbeats 4000000 in
theorem open_with (hd : Dv B w d mb mp cv ds) (hB : B ≤ w.heap.size) (fst n ep fs fa : Nat) (ho : OkO ds fst n ep fs fa) (rs : List ByteArray) (ds' : DS) (s' : LS)
    (SC : ∀ W l, Wl B W d mb mp cv ds l (.slice none 0 0) (ls0 fst n ep fs fa) → Calls Try.prog 61 #[.pointer (some ⟨l, 0, none⟩)] W fun e w' => ∃ vr, e = .returned (.tuple #[vr, .int .i64 0]) ∧ OwnS W.heap.size w' vr rs ∧ Wl B w' d mb mp cv ds' l (.slice none 0 0) s' ∧ Kept (fun k => k = d ∨ k = l) W w') :
    Calls Try.prog 22 #[.pointer (some ⟨d, 0, none⟩), .int .i64 (fst : Int), .int .i64 (n : Int), .agg #[.int .i64 (fs : Int), .int .i64 (fa : Int)], .int .i64 (ep : Int)] w fun e w' => ∃ l vr, e = .returned (.tuple #[.pointer (some ⟨l, 0, none⟩), vr, .int .i64 0]) ∧ w.heap.size ≤ l ∧ OwnS w.heap.size w' vr rs ∧ Wl B w' d mb mp cv ds' l (.slice none 0 0) s' ∧ Kept (fun k => k = d) w w' := by
  have HD := Lib.hid hd
  have FT := Lib.hid (ls0_fit ho hd.fit.hi)
  have hdn := hd.fit.hi
  obtain ⟨N, hN⟩ : ∃ N, N = ds.n := ⟨_, rfl⟩
  obtain ⟨q1, q2, q3, q4, q5, q6, q7, q8⟩ := ho
  rw [← hN] at q3 hdn
  obtain ⟨X, hX⟩ : ∃ X, X = w.alloc (.cells #[.int .i64 (fs : Int), .int .i64 (fa : Int)] 49) := ⟨_, rfl⟩
  have BX : Hid (Below w.heap.size w X) := Lib.hid (by rw [hX]; exact (Below.refl _ _).alloc (Nat.le_refl _) _)
  have DX : Hid (Dv B X d mb mp cv ds) := Lib.hid (hd.below BX.out)
  have x0 : X.cell? ⟨w.heap.size, 0, none⟩ = some (.int .i64 (fs : Int)) := by rw [hX]; exact World.cell?_alloc_new _ _ _ _
  have x1 : X.cell? ⟨w.heap.size, 1, none⟩ = some (.int .i64 (fa : Int)) := by rw [hX]; exact World.cell?_alloc_new _ _ _ _
  have BL : Hid (Calls Try.prog 59 #[.pointer (some ⟨d, 0, none⟩)] X fun e w' => e = .returned (.int .i64 (N : Int)) ∧ w' = X) := Lib.hid (by rw [hN]; exact blocks_any DX.out)
  have S1 : Hid (∀ W, Calls Try.prog 60 #[.int .i64 (fs : Int)] W fun e w' => e = .returned (.bool true) ∧ w' = W) := Lib.hid (fun W => by
    have e : serB (fs : Int) = true := by unfold serB; rw [Bool.and_eq_true, decide_eq_true_iff, decide_eq_true_iff]; omega
    rw [← e]; exact serial_any _ W)
  have S2 : Hid (∀ W, Calls Try.prog 60 #[.int .i64 (ep : Int)] W fun e w' => e = .returned (.bool true) ∧ w' = W) := Lib.hid (fun W => by
    have e : serB (ep : Int) = true := by unfold serB; rw [Bool.and_eq_true, decide_eq_true_iff, decide_eq_true_iff]; omega
    rw [← e]; exact serial_any _ W)
  have c1 : decide ((n : Int) < 8) = false := decide_eq_false (by omega)
  have c2 : decide ((n : Int) > 512) = false := decide_eq_false (by omega)
  have c3 : decide ((fst : Int) < 0) = false := decide_eq_false (by omega)
  have c4 : decide ((fst : Int) > (N : Int) - (n : Int)) = false := decide_eq_false (by omega)
  have c5 : decide ((fa : Int) < 0) = false := decide_eq_false (by omega)
  have c6 : decide ((fa : Int) ≥ (n : Int)) = false := decide_eq_false (by omega)
  have c6' : ¬ n ≤ fa := by omega
  have SCH := Lib.hid SC
  have SZ := Lib.hid hB
  have hX' := hX.symm
  clear hd hX hN SC hB
  go_enter Try.func22, Try.ntmps22
  go_wp2_with first | (go_at_call 59; refine BL.out.mono ?_; rintro r w0 ⟨rfl, rfl⟩) | (go_at_call 60; refine (S1.out _).mono ?_; rintro r w0 ⟨rfl, rfl⟩) | (go_at_call 60; refine (S2.out _).mono ?_; rintro r w0 ⟨rfl, rfl⟩)
  obtain ⟨Y, hY⟩ : ∃ Y, Y = w0.alloc (.cells #[.pointer (some ⟨d, 0, none⟩), .int .i64 (fst : Int), .int .i64 (n : Int), .int .i64 (ep : Int), .int .i64 (fs : Int), .int .i64 (fa : Int), .int .i64 (fs : Int), .int .i64 (fa : Int), .slice none 0 0, .int .i64 0, .bool false] 102) := ⟨_, rfl⟩
  have BY : Hid (Below w0.heap.size w0 Y) := Lib.hid (by rw [hY]; exact (Below.refl _ _).alloc (Nat.le_refl _) _)
  have LY : Hid (Wl B Y d mb mp cv ds w0.heap.size (.slice none 0 0) (ls0 fst n ep fs fa)) := Lib.hid ⟨DX.out.below BY.out, ⟨by rw [hY]; exact heap_alloc_new _ _, World.ownsRow_nil _ _ _ _, by have := SZ.out; have := BX.out.size; omega, FT.out⟩⟩
  rw [← hY]
  clear hY
  refine (SCH.out Y w0.heap.size LY.out).mono ?_
  rintro r w2 ⟨vr, rfl, ho2, hw2, hk2⟩
  have F2 := Lib.hid (And.intro ho2 (And.intro hw2 hk2))
  clear ho2 hw2 hk2 SCH
  go_wp2_with fail
  go_ret3
  have s0 : w.heap.size ≤ w0.heap.size := BX.out.size
  have s1 : w0.heap.size ≤ Y.heap.size := BY.out.size
  refine ⟨w0.heap.size, vr, rfl, s0, ?_, F2.out.2.1, ?_⟩
  · obtain ⟨h1, h2 | ⟨gq, cap, cur, hv, hB, hr⟩⟩ := F2.out.1
    · exact ⟨h1, .inl h2⟩
    · exact ⟨h1, .inr ⟨gq, cap, cur, hv, by omega, hr⟩⟩
  · have k1 : Kept (fun k => k = d) w w0 := Below.kept BX.out _
    have k2 := k1.trans (Below.kept BY.out (fun _ => False)) (fun _ _ q => q.elim)
    exact k2.trans F2.out.2.2 (fun x hx q => by rcases q with q | q; exact q; omega)
end Go.Proofs.Ytfljbipnjfciaab
