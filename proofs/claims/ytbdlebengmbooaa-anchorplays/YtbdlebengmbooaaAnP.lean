/-
  put, get.
-/
import Derived.Test.YtbdlebengmbooaaWaM
namespace Go.Proofs.Ytbdlebengmbooaa
open Go.RowKit Go.Maps
set_option maxHeartbeats 1000000 in
theorem put_any (g off n cap : Nat) (x : Nat) (L : List UInt8) (w : World) (hg : w.heap[g]? = some (.cells (cells8 L).toArray 5 (0, 0))) (hn : n ≤ 8) (hc : n ≤ cap) (hm : cap ≤ maxLen) (hL : off + n ≤ L.length) (_hx : x < 18446744073709551616) :
    Calls Try.prog 50 #[.slice (some ⟨g, off, none⟩) n cap, .int .u64 (x : Int)] w fun e w' => e = .returned (.tuple #[]) ∧ w'.heap[g]? = some (.cells (cells8 (splice L off (leB n x))).toArray 5 (0, 0)) ∧ Kept (fun k => k = g) w w' := by
  have G := Lib.hid hg
  unfold maxLen at hm
  have LN := Lib.hid hL
  clear hg hL
  go_enter Try.func50, Try.ntmps50
  go_wp2_with fail
  go_loopg [4, 7] n (fun gg s4 si wr => ∃ (k : Nat), k ≤ n ∧ gg = n - k ∧ si = .int .i64 k ∧ wr.heap[g]? = some (.cells (cells8 (splice L off (leB k x))).toArray 5 (0, 0)) ∧ Kept (fun k => k = g) w wr)
  case atStart => exact ⟨0, Nat.zero_le _, rfl, rfl, by rw [show splice L off (leB 0 x) = L by simp [splice, leB]]; exact G.out, Kept.refl _ _⟩
  case round =>
    obtain ⟨k, hk, hgk, rfl, hp, hb⟩ := hrel
    have R : Aside (gk = n - k ∧ wr.heap[g]? = some (.cells (cells8 (splice L off (leB k x))).toArray 5 (0, 0)) ∧ Kept (fun k => k = g) w wr) := ⟨hgk, hp, hb⟩
    by_cases hlt : k < n
    · have hlt' : (k : Int) < (n : Int) := by omega
      have sl : (splice L off (leB k x)).length = L.length := length_splice _ _ _ (by rw [leB_length]; have := LN.out; omega)
      have c1 : ∃ u, wr.cell? ⟨g, off + k, none⟩ = some u := by
        rw [cell_of_row wr _ _ _ _ _ hp]
        exact ⟨_, Array.getElem?_eq_getElem (by simp only [List.size_toArray, cells8_length, sl]; have := LN.out; omega)⟩
      obtain ⟨u, c1⟩ := c1
      have c2 : wr.frozen? ⟨g, off + k, none⟩ = false := frozen_of_row wr _ _ _ _ hp
      clear hgk hp hb sl
      have e8 : ((x : Int) / 2 ^ (8 * k) % 256) = c8 (UInt8.ofNat (x / 256 ^ k % 256)) := by
        have e2 : (2 : Int) ^ (8 * k) = ((256 ^ k : Nat) : Int) := by rw [show (256 : Nat) = 2 ^ 8 from rfl, ← Nat.pow_mul]; simp
        rw [c8_of _ (Nat.mod_lt _ (by decide)), e2]
        simp
      go_wp2_with fail
      go_roundg (n - (k + 1))
      case measure => have := R.out.1; omega
      case rel =>
        refine ⟨k + 1, by omega, rfl, by go_num, ?_, R.out.2.2.trans (kept_set (F := fun k => k = g) _ _ _ rfl) (fun _ _ h => h)⟩
        rw [heap_setCell_same _ _ _ _ _ _ R.out.2.1]
        congr 2
        apply Array.ext'
        rw [Array.toList_setIfInBounds]
        show (cells8 (splice L off (leB k x))).set (off + k) _ = cells8 (splice L off (leB (k + 1) x))
        rw [leB_snoc, ← splice_snoc _ _ _ _ (by rw [leB_length]; have := LN.out; omega), leB_length]
        unfold cells8
        rw [List.map_set]
    · have ek : k = n := by omega
      subst ek
      clear hgk hp hb
      go_wp2_with fail
      first | go_end0 | refine bodyPost_ret (results_none rfl _ _ _) rfl ?_
      exact ⟨rfl, R.out.2.1, R.out.2.2⟩
theorem or_add (N c k : Nat) (hN : N < 2 ^ (8 * k)) : N ||| c * 2 ^ (8 * k) = N + c * 2 ^ (8 * k) := by
  have h := Nat.shiftLeft_add_eq_or_of_lt hN c
  rw [Nat.shiftLeft_eq] at h
  rw [Nat.or_comm, ← h, Nat.add_comm]
set_option maxHeartbeats 1000000 in
theorem get_any (v : Value) (l : List UInt8) (w : World) (hv : Bytes w v l) (hl : l.length ≤ 8) :
    Calls Try.prog 69 #[v] w fun e w' => e = .returned (.int .u64 (leN l : Int)) ∧ w' = w := by
  obtain ⟨a, cap, rfl, hlc, hcm, _, hc⟩ := hv
  unfold maxLen at hcm
  have HC := Lib.hid hc
  obtain ⟨n, hn⟩ : ∃ n, n = l.length := ⟨_, rfl⟩
  rw [← hn] at hlc hl ⊢
  have NN := Lib.hid hn
  clear hc hn
  go_enter Try.func69, Try.ntmps69
  go_wp2_with fail
  go_loopg [3, 4, 5, 8] n (fun gg s3 s4 s5 si wr => ∃ (k : Nat), k ≤ n ∧ gg = n - k ∧ si = .int .i64 k ∧ s3 = .int .u64 (leN (l.take k) : Int) ∧ wr = w)
  case atStart => exact ⟨0, Nat.zero_le _, rfl, rfl, rfl, rfl⟩
  case round =>
    obtain ⟨k, hk, hgk, rfl, rfl, rfl⟩ := hrel
    have R : Aside (gk = n - k) := hgk
    clear hgk
    by_cases hlt : k < n
    · obtain ⟨b, off, rfl, hcell⟩ := HC.out k (by rw [← NN.out]; exact hlt)
      have hlt' : (k : Int) < (n : Int) := by omega
      obtain ⟨N, hN⟩ : ∃ N : Nat, N = leN (l.take k) := ⟨_, rfl⟩
      rw [← hN]
      have HN := Lib.hid hN
      obtain ⟨c, hcc⟩ : ∃ c, c = l.getD k 0 := ⟨_, rfl⟩
      rw [← hcc] at hcell
      have CC := Lib.hid hcc
      clear hN hcc
      have LK : Hid (leN (l.take (k + 1)) = N + c.toNat * 2 ^ (8 * k) ∧ N < 2 ^ (8 * k) ∧ leN (l.take (k + 1)) < 18446744073709551616) := Lib.hid (by
        have hkl : k < l.length := by rw [← NN.out]; exact hlt
        have e1 : l.take (k + 1) = l.take k ++ [c] := by rw [CC.out]; exact Sm.take_one l k 0 hkl
        have e2 : (l.take k).length = k := by rw [List.length_take]; omega
        have e3 := leN_lt (l.take k)
        have e4 := leN_lt (l.take (k + 1))
        rw [e2, ← HN.out, show (256 : Nat) = 2 ^ 8 by rfl, ← Nat.pow_mul] at e3
        refine ⟨?_, e3, Nat.lt_of_lt_of_le e4 ?_⟩
        · rw [e1, leN_snoc, e2, ← HN.out, show (256 : Nat) = 2 ^ 8 by rfl, ← Nat.pow_mul]
        · rw [List.length_take]
          have h1 : min (k + 1) l.length ≤ 8 := by omega
          exact Nat.le_trans (Nat.pow_le_pow_right (by decide) h1) (by decide))
      have e8 : bits BinOp.or IntKind.u64 (↑N) (IntKind.u64.wrap (IntKind.u64.wrap (c8 c) * 2 ^ (8 * k))) = (leN (l.take (k + 1)) : Int) := by
        obtain ⟨h1, h2, h3⟩ := LK.out
        have hc1 : IntKind.u64.wrap (c8 c) = (c.toNat : Int) := by
          rw [IntKind.wrap_u64]
          unfold c8
          have := c.toNat_lt
          omega
        have hc2 : IntKind.u64.wrap ((c.toNat : Int) * 2 ^ (8 * k)) = ((c.toNat * 2 ^ (8 * k) : Nat) : Int) := by
          rw [IntKind.wrap_u64]
          have e : ((c.toNat : Int) * 2 ^ (8 * k)) = ((c.toNat * 2 ^ (8 * k) : Nat) : Int) := by simp
          rw [e]
          have : c.toNat * 2 ^ (8 * k) < 18446744073709551616 := by omega
          omega
        rw [hc1, hc2, bits_or_u64_nat _ _ (by omega) (by omega), or_add _ _ _ h2, h1]
      obtain ⟨O, hO⟩ : ∃ O, O = bits BinOp.or IntKind.u64 (↑N) (IntKind.u64.wrap (IntKind.u64.wrap (c8 c) * 2 ^ (8 * k))) := ⟨_, rfl⟩
      have OO := Lib.hid (hO.trans e8)
      have hO' := hO.symm
      clear hO e8
      go_wp2_with fail
      go_roundg (n - (k + 1))
      case measure => have := R.out; omega
      case rel => exact ⟨k + 1, by omega, rfl, by go_num, by rw [← OO.out, ← hO'], rfl⟩
    · have ek : k = n := by omega
      subst ek
      go_wp2_with fail
      go_ret
      exact ⟨ret_int (by rw [List.take_of_length_le (by rw [NN.out]; exact Nat.le_refl _)]), rfl⟩
end Go.Proofs.Ytbdlebengmbooaa
