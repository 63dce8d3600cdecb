/-
  The document's put, got.
-/
import Derived.Test.YthjekiddjldehaaAnC
namespace Go.Proofs.Ythjekiddjldehaa
open Go.RowKit Go.Maps
set_option maxHeartbeats 1000000 in
theorem rput_any (g o n : Nat) (x : Nat) (L : List UInt8) (w : World) (hg : w.heap[g]? = some (.cells (cells8 L).toArray 5 (0, 0))) (hn : n ≤ 8) (hL : L.length = 512) (ho : o + n ≤ 512) (_hx : x < 9223372036854775808) :
    Calls Try.prog 53 #[.slice (some ⟨g, 0, none⟩) 512 512, .int .i64 (o : Int), .int .i64 (x : Int), .int .i64 (n : Int)] w fun e w' => e = .returned (.tuple #[]) ∧ w'.heap[g]? = some (.cells (cells8 (splice L o (leB n x))).toArray 5 (0, 0)) ∧ Kept (fun k => k = g) w w' := by
  have G := Lib.hid hg
  have LN := Lib.hid hL
  clear hg hL
  go_enter Try.func53, Try.ntmps53
  go_wp2_with fail
  go_loopg [8] n (fun gg si wr => ∃ (k : Nat), k ≤ n ∧ gg = n - k ∧ si = .int .i64 k ∧ wr.heap[g]? = some (.cells (cells8 (splice L o (leB k x))).toArray 5 (0, 0)) ∧ Kept (fun k => k = g) w wr)
  case atStart => exact ⟨0, Nat.zero_le _, rfl, rfl, by rw [show splice L o (leB 0 x) = L by simp [splice, leB]]; exact G.out, Kept.refl _ _⟩
  case round =>
    obtain ⟨k, hk, hgk, rfl, hp, hb⟩ := hrel
    have R : Aside (gk = n - k ∧ wr.heap[g]? = some (.cells (cells8 (splice L o (leB k x))).toArray 5 (0, 0)) ∧ Kept (fun k => k = g) w wr) := ⟨hgk, hp, hb⟩
    by_cases hlt : k < n
    · have hlt' : (k : Int) < (n : Int) := by omega
      have sl : (splice L o (leB k x)).length = 512 := by rw [length_splice _ _ _ (by rw [leB_length, LN.out]; omega), LN.out]
      obtain ⟨m, hm⟩ : ∃ m, m = o + k := ⟨_, rfl⟩
      have c1 : ∃ u, wr.cell? ⟨g, m, none⟩ = some u := by
        rw [cell_of_row wr _ _ _ _ _ hp]
        exact ⟨_, Array.getElem?_eq_getElem (by simp only [List.size_toArray, cells8_length, sl]; omega)⟩
      obtain ⟨u, c1⟩ := c1
      have c2 : wr.frozen? ⟨g, m, none⟩ = false := frozen_of_row wr _ _ _ _ hp
      have em : (o : Int) + (k : Int) = (m : Int) := by omega
      have hm5 : (m : Int) < 512 := by omega
      have MM := Lib.hid hm
      clear hgk hp hb sl hm
      have e8 : ((x : Int) / 2 ^ (8 * k) % 256) = c8 (UInt8.ofNat (x / 256 ^ k % 256)) := by
        have e2 : (2 : Int) ^ (8 * k) = ((256 ^ k : Nat) : Int) := by rw [show (256 : Nat) = 2 ^ 8 from rfl, ← Nat.pow_mul]; simp
        rw [c8_of _ (Nat.mod_lt _ (by decide)), e2]
        simp
      go_wp2_with fail
      go_roundg (n - (k + 1))
      case measure => have := R.out.1; omega
      case rel =>
        refine ⟨k + 1, by omega, rfl, by go_num, ?_, R.out.2.2.trans (kept_set (F := fun k => k = g) _ _ _ rfl) (fun _ _ h => h)⟩
        rw [heap_setCell_same _ _ _ _ _ _ R.out.2.1]
        congr 2
        apply Array.ext'
        rw [Array.toList_setIfInBounds, MM.out]
        show (cells8 (splice L o (leB k x))).set (o + k) _ = cells8 (splice L o (leB (k + 1) x))
        rw [leB_snoc, ← splice_snoc _ _ _ _ (by rw [leB_length, LN.out]; omega), leB_length]
        unfold cells8
        rw [List.map_set]
    · have ek : k = n := by omega
      subst ek
      clear hgk hp hb
      go_wp2_with fail
      first | go_end0 | refine bodyPost_ret (results_none rfl _ _ _) rfl ?_
      exact ⟨rfl, R.out.2.1, R.out.2.2⟩
/-- One byte more behind, in an int64. -/
theorem or_low (N : Nat) (c : UInt8) : bits .or .i64 (IntKind.i64.wrap ((N : Int) * 256)) (c8 c) = IntKind.i64.wrap (((c.toNat + 256 * N : Nat)) : Int) := by
  have hc := c.toNat_lt
  have h1 : (BitVec.ofInt 64 (IntKind.i64.wrap ((N : Int) * 256))).toNat = (N * 256) % 18446744073709551616 := by
    rw [BitVec.toNat_ofInt, IntKind.wrap_i64]; omega
  have h2 : (BitVec.ofInt 64 (c8 c)).toNat = c.toNat := by
    unfold c8
    rw [BitVec.ofInt_natCast, BitVec.toNat_ofNat]; exact Nat.mod_eq_of_lt (by omega)
  show IntKind.i64.wrap ((BitVec.ofInt 64 (IntKind.i64.wrap ((N : Int) * 256)) ||| BitVec.ofInt 64 (c8 c)).toNat : Int) = _
  rw [BitVec.toNat_or, h1, h2]
  have e : (N * 256) % 18446744073709551616 = (N % 72057594037927936) * 256 := by omega
  rw [e]
  have h3 := Nat.shiftLeft_add_eq_or_of_lt (show c.toNat < 2 ^ 8 by omega) (N % 72057594037927936)
  rw [Nat.shiftLeft_eq] at h3
  rw [show (256 : Nat) = 2 ^ 8 from rfl, ← h3, IntKind.wrap_i64, IntKind.wrap_i64]
  omega
theorem wrap_256 (N : Nat) : IntKind.i64.wrap (IntKind.i64.wrap (N : Int) * 256) = IntKind.i64.wrap ((N : Int) * 256) := by
  rw [IntKind.wrap_i64, IntKind.wrap_i64, IntKind.wrap_i64]; omega
def subB (b : List UInt8) (a n : Nat) : List UInt8 := (b.drop a).take n
theorem sub_cons (b : List UInt8) (m j : Nat) (h : m < b.length) : subB b m (j + 1) = b.getD m 0 :: subB b (m + 1) j := by
  unfold subB
  rw [List.drop_eq_getElem_cons h, List.take_succ_cons, List.getD_eq_getElem?_getD, List.getElem?_eq_getElem h, Option.getD_some]
set_option maxHeartbeats 1000000 in
theorem rgot_any (v : Value) (b : List UInt8) (o n : Nat) (w : World) (hv : Bytes w v b) (hb : b.length = 512) (ho : o + n ≤ 512) :
    Calls Try.prog 56 #[v, .int .i64 (o : Int), .int .i64 (n : Int)] w fun e w' => e = .returned (.int .i64 (IntKind.i64.wrap (leN (subB b o n) : Int))) ∧ w' = w := by
  obtain ⟨a, cap, rfl, hlc, hcm, _, hc⟩ := hv
  unfold maxLen at hcm
  have HC : Hid (∀ k, k < 512 → ∃ bb off, a = some ⟨bb, off, none⟩ ∧ w.cell? ⟨bb, off + k, none⟩ = some (.int .u8 (c8 (b.getD k 0)))) := Lib.hid (by rw [← hb]; exact hc)
  rw [hb] at hlc ⊢
  have LB := Lib.hid hb
  clear hc hb
  go_enter Try.func56, Try.ntmps56
  go_wp2_with fail
  go_loopg [7, 8] n (fun gg sv si wr => ∃ (j : Nat) (ii : Int), j ≤ n ∧ gg = n - j ∧ ii = (n : Int) - 1 - (j : Int) ∧ si = .int .i64 ii ∧ sv = .int .i64 (IntKind.i64.wrap (leN (subB b (o + n - j) j) : Int)) ∧ wr = w)
  case atStart => exact ⟨0, (n : Int) - 1, by omega, rfl, by omega, rfl, by simp [subB, leN, IntKind.wrap_i64], rfl⟩
  case round =>
    obtain ⟨j, ii, hj, hg, hii, rfl, rfl, hwr⟩ := hrel
    obtain rfl := hwr.symm
    have G := Lib.hid hg
    clear hg
    by_cases hlt : j < n
    · have f1 : decide (ii ≥ 0) = true := decide_eq_true (by omega)
      have f1' : (0 : Int) ≤ ii := by omega
      obtain ⟨m, hm⟩ : ∃ m, m = o + n - (j + 1) := ⟨_, rfl⟩
      have em : (o : Int) + ii = (m : Int) := by omega
      have hm5 : (m : Int) < 512 := by omega
      obtain ⟨bb, off, rfl, c0⟩ := HC.out m (by omega)
      obtain ⟨c, hcc⟩ : ∃ c, c = b.getD m 0 := ⟨_, rfl⟩
      rw [← hcc] at c0
      obtain ⟨N, hN⟩ : ∃ N, N = leN (subB b (o + n - j) j) := ⟨_, rfl⟩
      have NX : Hid (leN (subB b (o + n - (j + 1)) (j + 1)) = c.toNat + 256 * N) := Lib.hid (by
        rw [← hm, sub_cons b m j (by rw [LB.out]; omega), leN, ← hcc, hN]
        congr 3
        rw [hm]
        congr 1
        omega)
      rw [← hN]
      have II := Lib.hid hii
      have OL := Lib.hid (or_low N c)
      have WL := Lib.hid (wrap_256 N)
      obtain ⟨n8, h8⟩ : ∃ n8, n8 = c8 c := ⟨_, rfl⟩
      rw [← h8] at c0 OL
      obtain ⟨V, hV⟩ : ∃ V, V = IntKind.i64.wrap (N : Int) := ⟨_, rfl⟩
      rw [← hV] at WL ⊢
      have b0 : 0 ≤ n8 := by rw [h8]; exact c8_lo c
      have b1 : n8 < 256 := by rw [h8]; exact c8_hi c
      clear hcc hN hii hm h8 hV
      go_wp2_with fail
      go_roundg (n - (j + 1))
      case measure => have := G.out; omega
      case rel => exact ⟨j + 1, ii - 1, by omega, rfl, by have := II.out; omega, rfl, by rw [NX.out, ← OL.out, ← WL.out, show IntKind.i64.wrap (V * 256) = wrap64 (V * 256) by first | exact IntWalk.i64_left _ | exact Go.IntWalk.i64_left _ | (rw [IntKind.wrap_i64]; unfold wrap64; rfl)], rfl⟩
    · have f1 : decide (ii ≥ 0) = false := decide_eq_false (by omega)
      have ej : Hid (j = n) := Lib.hid (by omega)
      clear hii
      go_wp2_with fail
      go_ret
      exact ⟨ret_int (by rw [ej.out, Nat.add_sub_cancel]), rfl⟩
end Go.Proofs.Ythjekiddjldehaa
