/-
  right.
-/
import Derived.Test.YthjekiddjldehaaAnF
import Derived.Laws.Bits64b
namespace Go.Proofs.Ythjekiddjldehaa
open Go.RowKit Go.Maps
/-- The k lowest bits. -/
def mk (n : Int) (k : Nat) : Nat := (n % 18446744073709551616).toNat % 2 ^ k
theorem mk_lt (n : Int) (k : Nat) : mk n k < 2 ^ k := Nat.mod_lt _ (Nat.two_pow_pos k)
theorem and_mk (n : Int) (k : Nat) (hk : k ≤ 62) : bits .and .i64 n (((2 ^ k - 1 : Nat)) : Int) = (mk n k : Int) := by
  have hp : 2 ^ k ≤ 4611686018427387904 := Nat.le_trans (Nat.pow_le_pow_right (by decide) hk) (by decide)
  have hp0 : 0 < 2 ^ k := Nat.two_pow_pos k
  have h1 : (BitVec.ofInt 64 n).toNat = (n % 18446744073709551616).toNat := by rw [BitVec.toNat_ofInt]; rfl
  have h2 : (BitVec.ofInt 64 (((2 ^ k - 1 : Nat)) : Int)).toNat = 2 ^ k - 1 := by
    rw [BitVec.ofInt_natCast, BitVec.toNat_ofNat]; exact Nat.mod_eq_of_lt (by omega)
  show IntKind.i64.wrap ((BitVec.ofInt 64 n &&& BitVec.ofInt 64 (((2 ^ k - 1 : Nat)) : Int)).toNat : Int) = _
  rw [BitVec.toNat_and, h1, h2, Nat.and_two_pow_sub_one_eq_mod, IntKind.wrap_i64]
  unfold mk
  have := Nat.mod_lt (n % 18446744073709551616).toNat hp0
  omega
theorem and_1 (n : Int) : bits .and .i64 n 1 = (mk n 1 : Int) := and_mk n 1 (by decide)
theorem and_7 (n : Int) : bits .and .i64 n 7 = (mk n 3 : Int) := and_mk n 3 (by decide)
theorem and_31 (n : Int) : bits .and .i64 n 31 = (mk n 5 : Int) := and_mk n 5 (by decide)
theorem and_511 (n : Int) : bits .and .i64 n 511 = (mk n 9 : Int) := and_mk n 9 (by decide)
theorem and_1023 (n : Int) : bits .and .i64 n 1023 = (mk n 10 : Int) := and_mk n 10 (by decide)
theorem and_59 (n : Int) : bits .and .i64 n 576460752303423487 = (mk n 59 : Int) := and_mk n 59 (by decide)
/-- The superblock that right makes. -/
def rightS (s : Sup) (g : Int) : Sup :=
  ⟨g, 1 + (mk s.ep 59 : Int), 64, 8 + (mk s.log 3 : Int), 1 + (mk s.st 59 : Int), (mk s.st 59 : Int) % (8 + (mk s.log 3 : Int)), if mk s.rt 1 = 1 then 2 + (8 + (mk s.log 3 : Int)) + (mk s.rt 5 : Int) else 0, if mk s.rt 1 = 1 then 1 + (mk s.cnt 59 : Int) else 0, (mk s.ver 59 : Int)⟩
theorem right_va (s : Sup) (g : Int) (h1 : 1 ≤ g) (h2 : g ≤ 1152921500311879680) : vaB (rightS s g) 64 = true := by
  have e59 : (2 : Nat) ^ 59 = 576460752303423488 := by decide
  have a1 := mk_lt s.ep 59
  have a2 := mk_lt s.st 59
  have a3 := mk_lt s.ver 59
  have a4 := mk_lt s.cnt 59
  have a5 : mk s.log 3 < 8 := mk_lt s.log 3
  have a6 : mk s.rt 5 < 32 := mk_lt s.rt 5
  refine (vd_iff (rightS s g)).2 ⟨by show (64 : Int) ≤ 64; omega, by show (64 : Int) ≤ 4096; omega, by show (8 : Int) ≤ 8 + (mk s.log 3 : Int); omega, by show 8 + (mk s.log 3 : Int) ≤ 512; omega, by show 2 + (8 + (mk s.log 3 : Int)) + 40 ≤ 64; omega, h1, h2, by show (1 : Int) ≤ 1 + (mk s.ep 59 : Int); omega, by show 1 + (mk s.ep 59 : Int) ≤ 1152921500311879680; omega, by show (1 : Int) ≤ 1 + (mk s.st 59 : Int); omega, by show 1 + (mk s.st 59 : Int) ≤ 1152921500311879680; omega, ?_, by show (0 : Int) ≤ (mk s.ver 59 : Int); omega, by show (mk s.ver 59 : Int) ≤ 1152921500311879680; omega, ?_⟩
  · show (mk s.st 59 : Int) % (8 + (mk s.log 3 : Int)) = (1 + (mk s.st 59 : Int) - 1) % (8 + (mk s.log 3 : Int))
    congr 1
    omega
  · show ((if mk s.rt 1 = 1 then 2 + (8 + (mk s.log 3 : Int)) + (mk s.rt 5 : Int) else 0) = 0 ∧ (if mk s.rt 1 = 1 then 1 + (mk s.cnt 59 : Int) else 0) = 0) ∨ (2 + (8 + (mk s.log 3 : Int)) ≤ (if mk s.rt 1 = 1 then 2 + (8 + (mk s.log 3 : Int)) + (mk s.rt 5 : Int) else 0) ∧ (if mk s.rt 1 = 1 then 2 + (8 + (mk s.log 3 : Int)) + (mk s.rt 5 : Int) else 0) < 64 ∧ 1 ≤ (if mk s.rt 1 = 1 then 1 + (mk s.cnt 59 : Int) else 0) ∧ (if mk s.rt 1 = 1 then 1 + (mk s.cnt 59 : Int) else 0) ≤ 1152921500311879680)
    by_cases h : mk s.rt 1 = 1
    · rw [if_pos h, if_pos h]; right; omega
    · rw [if_neg h, if_neg h]; left; exact ⟨rfl, rfl⟩
set_option maxRecDepth 100000 in
set_option maxHeartbeats 8000000 in
theorem right_any (s : Sup) (g : Int) (w : World) : Calls Try.prog 10 #[.agg s.arr, .int .i64 g] w fun e w' => e = .returned (.agg (rightS s g).arr) ∧ Below w.heap.size w w' := by
  have e59 : (2 : Nat) ^ 59 = 576460752303423488 := by decide
  obtain ⟨xgen, xep, xblk, xlog, xst, xpl, xrt, xcnt, xver⟩ := s
  obtain ⟨me, hme⟩ : ∃ n, n = mk xep 59 := ⟨_, rfl⟩
  obtain ⟨ml, hml⟩ : ∃ n, n = mk xlog 3 := ⟨_, rfl⟩
  obtain ⟨ms, hms⟩ : ∃ n, n = mk xst 59 := ⟨_, rfl⟩
  obtain ⟨mr, hmr⟩ : ∃ n, n = mk xrt 5 := ⟨_, rfl⟩
  obtain ⟨mo, hmo⟩ : ∃ n, n = mk xrt 1 := ⟨_, rfl⟩
  obtain ⟨mc, hmc⟩ : ∃ n, n = mk xcnt 59 := ⟨_, rfl⟩
  obtain ⟨mv, hmv⟩ : ∃ n, n = mk xver 59 := ⟨_, rfl⟩
  have b1 : me < 576460752303423488 := by rw [hme, ← e59]; exact mk_lt _ _
  have b2 : ml < 8 := by rw [hml]; exact mk_lt _ 3
  have b3 : ms < 576460752303423488 := by rw [hms, ← e59]; exact mk_lt _ _
  have b4 : mr < 32 := by rw [hmr]; exact mk_lt _ 5
  have b5 : mc < 576460752303423488 := by rw [hmc, ← e59]; exact mk_lt _ _
  have b6 : mv < 576460752303423488 := by rw [hmv, ← e59]; exact mk_lt _ _
  have b7 : mo < 2 := by rw [hmo]; exact mk_lt _ 1
  have w1 : bits .and .i64 xep 576460752303423487 = (me : Int) := by rw [hme]; exact and_59 _
  have w2 : bits .and .i64 xlog 7 = (ml : Int) := by rw [hml]; exact and_7 _
  have w3 : bits .and .i64 xst 576460752303423487 = (ms : Int) := by rw [hms]; exact and_59 _
  have w4 : bits .and .i64 xrt 31 = (mr : Int) := by rw [hmr]; exact and_31 _
  have w5 : bits .and .i64 xcnt 576460752303423487 = (mc : Int) := by rw [hmc]; exact and_59 _
  have w6 : bits .and .i64 xver 576460752303423487 = (mv : Int) := by rw [hmv]; exact and_59 _
  have w7 : bits .and .i64 xrt 1 = (mo : Int) := by rw [hmo]; exact and_1 _
  obtain ⟨pl, hpl⟩ : ∃ p, p = (ms : Int) % (8 + (ml : Int)) := ⟨_, rfl⟩
  obtain ⟨ms1, hms1⟩ : ∃ p, p = 1 + (ms : Int) := ⟨_, rfl⟩
  have RE : Hid (rightS ⟨xgen, xep, xblk, xlog, xst, xpl, xrt, xcnt, xver⟩ g = ⟨g, 1 + (me : Int), 64, 8 + (ml : Int), 1 + (ms : Int), pl, if mo = 1 then 2 + (8 + (ml : Int)) + (mr : Int) else 0, if mo = 1 then 1 + (mc : Int) else 0, (mv : Int)⟩) := Lib.hid (by
    unfold rightS
    simp only
    rw [← hme, ← hml, ← hms, ← hmr, ← hmo, ← hmc, ← hmv, ← hpl])
  have rem : (1 + (ms : Int) - 1).tmod (8 + (ml : Int)) = pl := by
    rw [hpl, Int.tmod_eq_emod_of_nonneg (by omega)]
    congr 1
    omega
  have rem2 : ((ms : Int)).tmod (8 + (ml : Int)) = pl := by rw [hpl, Int.tmod_eq_emod_of_nonneg (by omega)]
  have BB : Hid (∀ a b c, Below w.heap.size w (((w.alloc a).alloc b).alloc c)) := Lib.hid (fun a b c => (((Below.refl _ _).alloc (Nat.le_refl _) a).alloc (by simp) b).alloc (by simp; omega) c)
  have G4 : Hid (∀ a (b : Array Value) c, (((w.alloc a).alloc (.cells b 25)).alloc c).heap[w.heap.size + 1]? = some (.cells b 25 (0, 0))) := Lib.hid (fun a b c => by
    have s1 : (w.alloc a).heap.size = w.heap.size + 1 := by simp
    rw [Below.heap_alloc _ _ _ (by simp), ← s1]
    exact heap_alloc_new _ _)
  have hn0 : ¬ (8 + (ml : Int)) = 0 := by omega
  have nt : decide (1 + (me : Int) > 1152921500311879680) = false := decide_eq_false (by omega)
  clear hme hml hms hmr hmo hmc hmv hpl hms1 ms1 e59
  unfold Sup.arr
  rw [RE.out]
  simp only
  by_cases ho : mo = 1
  · subst ho
    have q1 : (((1 : Nat) : Int) == 1) = true := rfl
    simp only [if_true]
    go_enter Try.func10, Try.ntmps10
    go_wp2_with fail
    exact bodyPost_ret (results_cell_row rfl _ _ (w.heap.size + 1) 25 _ (0, 0) _ rfl (G4.out _ _ _) Try.underlying25 rfl size_super) rfl ⟨rfl, BB.out _ _ _⟩
  · have q1 : ((mo : Int) == 1) = false := by rw [beq_eq_false_iff_ne]; omega
    have q2 : (mo == 1) = false := by rw [beq_eq_false_iff_ne]; exact ho
    simp only [if_neg ho]
    go_enter Try.func10, Try.ntmps10
    go_wp2_with fail
    exact bodyPost_ret (results_cell_row rfl _ _ (w.heap.size + 1) 25 _ (0, 0) _ rfl (G4.out _ _ _) Try.underlying25 rfl size_super) rfl ⟨rfl, BB.out _ _ _⟩
end Go.Proofs.Ythjekiddjldehaa
