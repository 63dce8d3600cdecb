/-
  THE WALKS of package sum: Open.
-/
import Derived.Test.YtfmgegkeidhdfaaWalk7
import Derived.Deep.QuietTactic
import Derived.BigQuiet
namespace Go.Proofs.Ytfmgegkeidhdfaa
open Go.RowKit

set_option maxHeartbeats 1000000 in
theorem open_short (v : Value) (l : List (BitVec 8)) (w : World) (hv : Bytes w v l) (hl : l.length < 4) :
    Calls Try.prog 14 #[v] w fun e w' => e = .returned (.tuple #[.slice none 0 0, .int .i64 20]) ∧ w' = w := by
  obtain ⟨a, cap, rfl, hlc, hcm, _, _⟩ := hv
  have h : (l.length : Int) < 4 := by omega
  go_enter Try.func14, Try.ntmps14
  go_wp2
  go_ret2
  exact ⟨rfl, rfl⟩

theorem or_sum (a b : Nat) (i : Nat) (ha : a < 2 ^ i) (hb : b % 2 ^ i = 0) (h1 : a < 4294967296) (h2 : b < 4294967296) : bits .or .u32 (a : Int) (b : Int) = ((a + b : Nat) : Int) := by
  rw [u32_or_nat a b h1 h2, Nat.or_comm, nat_join i b a hb ha, Nat.add_comm]
theorem told_sum (c0 c1 c2 c3 : BitVec 8) : bits .or .u32 (bits .or .u32 (bits .or .u32 (c8 c0) (c8 c1 * 256)) (c8 c2 * 65536)) (c8 c3 * 16777216) = c8 c0 + c8 c1 * 256 + c8 c2 * 65536 + c8 c3 * 16777216 := by
  have l0 := c0.isLt
  have l1 := c1.isLt
  have l2 := c2.isLt
  have l3 := c3.isLt
  unfold c8
  have e1 : bits .or .u32 (c0.toNat : Int) ((c1.toNat : Int) * 256) = ((c0.toNat + c1.toNat * 256 : Nat) : Int) := or_sum c0.toNat (c1.toNat * 256) 8 (by omega) (by omega) (by omega) (by omega)
  have e2 : bits .or .u32 ((c0.toNat + c1.toNat * 256 : Nat) : Int) ((c2.toNat : Int) * 65536) = ((c0.toNat + c1.toNat * 256 + c2.toNat * 65536 : Nat) : Int) := or_sum (c0.toNat + c1.toNat * 256) (c2.toNat * 65536) 16 (by omega) (by omega) (by omega) (by omega)
  have e3 : bits .or .u32 ((c0.toNat + c1.toNat * 256 + c2.toNat * 65536 : Nat) : Int) ((c3.toNat : Int) * 16777216) = ((c0.toNat + c1.toNat * 256 + c2.toNat * 65536 + c3.toNat * 16777216 : Nat) : Int) := or_sum (c0.toNat + c1.toNat * 256 + c2.toNat * 65536) (c3.toNat * 16777216) 24 (by omega) (by omega) (by omega) (by omega)
  rw [e1, e2, e3]; omega
theorem le4_iff (r : BitVec 32) (c0 c1 c2 c3 : BitVec 8) : le4 r = [c0, c1, c2, c3] ↔ u r = c8 c0 + c8 c1 * 256 + c8 c2 * 65536 + c8 c3 * 16777216 := by
  have h1 := u_low r
  have h2 : u r / 256 % (256 : Int) = c8 ((r >>> 8).setWidth 8) := u_byte r 8
  have h3 : u r / 65536 % (256 : Int) = c8 ((r >>> 16).setWidth 8) := u_byte r 16
  have h4 : u r / 16777216 % (256 : Int) = c8 ((r >>> 24).setWidth 8) := u_byte r 24
  have r0 := u_lo r
  have r1 := u_hi r
  have b0 := c8_lo c0
  have b1 := c8_lo c1
  have b2 := c8_lo c2
  have b3 := c8_lo c3
  have d0 := c8_hi c0
  have d1 := c8_hi c1
  have d2 := c8_hi c2
  have d3 := c8_hi c3
  constructor
  · intro h
    simp only [le4, List.cons.injEq, and_true] at h
    obtain ⟨e0, e1, e2, e3⟩ := h
    rw [e0] at h1; rw [e1] at h2; rw [e2] at h3; rw [e3] at h4
    omega
  · intro h
    have e0 : c8 (r.setWidth 8) = c8 c0 := by omega
    have e1 : c8 ((r >>> 8).setWidth 8) = c8 c1 := by omega
    have e2 : c8 ((r >>> 16).setWidth 8) = c8 c2 := by omega
    have e3 : c8 ((r >>> 24).setWidth 8) = c8 c3 := by omega
    simp only [le4, c8_inj e0, c8_inj e1, c8_inj e2, c8_inj e3]

theorem Bytes.drewN {w : World} {v : Value} {l : List (BitVec 8)} (H : Bytes w v l) (n : Nat) : Bytes (w.drewN n) v l := by
  obtain ⟨a, cap, e, h1, h2, h0, h3⟩ := H
  refine ⟨a, cap, e, h1, h2, h0, fun k hk => ?_⟩
  obtain ⟨b, off, ea, hc⟩ := h3 k hk
  exact ⟨b, off, ea, by rw [World.cell?_drewN]; exact hc⟩
theorem below_drawn (w : World) (n : Nat) : Below w.heap.size w (w.drewN n) := ⟨rfl, rfl, rfl, Nat.le_refl _, fun _ _ => rfl⟩

set_option maxHeartbeats 1000000 in
set_option maxRecDepth 100000 in
theorem open_long (b off n cap : Nat) (p : List (BitVec 8)) (c0 c1 c2 c3 : BitVec 8) (w : World) (hn : p.length = n) (hcap : n + 4 ≤ cap) (_hmax : cap ≤ maxLen)
    (h0 : w.cell? ⟨b, off + n, none⟩ = some (.int .u8 (c8 c0))) (h1 : w.cell? ⟨b, off + (n + 1), none⟩ = some (.int .u8 (c8 c1)))
    (h2 : w.cell? ⟨b, off + (n + 2), none⟩ = some (.int .u8 (c8 c2))) (h3 : w.cell? ⟨b, off + (n + 3), none⟩ = some (.int .u8 (c8 c3)))
    (hp : Bytes w (.slice (some ⟨b, off, none⟩) n cap) p) (hl : n ≤ 140737488355300) :
    Calls Try.prog 14 #[.slice (some ⟨b, off, none⟩) (n + 4) cap] w fun e w' =>
      (¬ le4 (upd 0#32 p) = [c0, c1, c2, c3] ∧ e = .returned (.tuple #[.slice none 0 0, .int .i64 2]) ∧ Below w.heap.size w w') ∨
      (le4 (upd 0#32 p) = [c0, c1, c2, c3] ∧ ∃ g, e = .returned (.tuple #[.slice (some ⟨g, 0, none⟩) n n, .int .i64 0]) ∧ Own w.heap.size w' (.slice (some ⟨g, 0, none⟩) n n) p ∧ Below w.heap.size w w') := by
  unfold maxLen at _hmax
  have P : Aside (Bytes w (.slice (some ⟨b, off, none⟩) n cap) p ∧ p.length = n) := ⟨hp, hn⟩
  clear hp hn
  have g0 : (0 : Int) ≤ (n : Int) := by omega
  have b0 := c8_lo c0
  have b1 := c8_lo c1
  have b2 := c8_lo c2
  have b3 := c8_lo c3
  have d0 := c8_hi c0
  have d1 := c8_hi c1
  have d2 := c8_hi c2
  have d3 := c8_hi c3
  have i0 : (n : Int) < (n : Int) + 4 := by omega
  have i1 : (n : Int) + 1 < (n : Int) + 4 := by omega
  have i2 : (n : Int) + 2 < (n : Int) + 4 := by omega
  have i3 : (n : Int) + 3 < (n : Int) + 4 := by omega
  go_enter Try.func14, Try.ntmps14
  go_wp2
  go_quiet (fail)
  obtain ⟨t, ht⟩ : ∃ t, t = bits .or .u32 (bits .or .u32 (bits .or .u32 (c8 c0) (c8 c1 * 256)) (c8 c2 * 65536)) (c8 c3 * 16777216) := ⟨_, rfl⟩
  rw [← ht]
  rw [told_sum] at ht
  have T : Aside (t = c8 c0 + c8 c1 * 256 + c8 c2 * 65536 + c8 c3 * 16777216) := ht
  clear ht b0 b1 b2 b3 d0 d1 d2 d3 i0 i1 i2 i3 h0 h1 h2 h3
  go_wp2_with fail
  refine (sum_ex _ p _ (P.out.1.drewN _)).mono ?_
  rintro e w1 ⟨r, rfl, er, hb⟩
  have B1 : Aside (Below w.heap.size w w1) := (below_drawn w nq).trans (hb.mono (Nat.le_refl _))
  clear hb
  by_cases hr : u r = t
  · have E : Aside (u r = t) := hr
    rw [← hr]
    clear hr
    have hmk : (Instr.makeSlice 28 (.int .i64 (n : Int)) (.int .i64 (n : Int))).run Try.prog w1 = .ok (.slice (some ⟨w1.heap.size, 0, none⟩) n n) (w1.alloc (.cells (madeCells #[.int .u8 0] n) 5)) :=
      make_bytes w1 n n rfl rfl (by omega) (by omega)
    have C : Hid (0 < (cells8 p).length → ∃ ad, some (⟨b, off, none⟩ : Addr) = some ad ∧ ∀ j v, (cells8 p)[j]? = some v → (w1.alloc (.cells (madeCells #[.int .u8 0] n) 5)).cell? (ad.add j) = some v) := by
      intro hp
      obtain ⟨q1, q2⟩ := P.out
      have q3 := q1.below (B1.out.alloc B1.out.size (.cells (madeCells #[.int .u8 0] n) 5))
      subst q2
      exact q3.src (fun k hk => ⟨hk, rfl⟩) hp
    have D : Hid (Below w.heap.size w (w1.alloc (.cells (madeCells #[.int .u8 0] n) 5))) := B1.out.alloc B1.out.size _
    have D2 : Hid (w.heap.size ≤ w1.heap.size) := B1.out.size
    go_wp2_with ((refine wpList_copy_splice rfl _ _ 28 28 rfl 5 Try.underlying28 size_byte (some ⟨w1.heap.size, 0, none⟩) (some ⟨b, off, none⟩) n n (n + 4) cap rfl rfl w1.heap.size 0 (madeCells #[.int .u8 0] n).toList 5 (made_heap w1 n) (cells8 p) ?h1 (fun hp => ⟨rfl, C.out hp⟩) ?h2 (cells8_one p) w.heap.size w D.out D2.out ?_))
    case h1 => rw [cells8_length, P.out.2]; simp
    case h2 => rw [cells8_length, P.out.2]; simp [size_madeCells]
    intro w2 HG hb
    have R : Aside (Own w1.heap.size w2 (.slice (some ⟨w1.heap.size, 0, none⟩) n n) p) := by
      show w2.ownsRow _ _ _ _ _ _
      rw [P.out.2]
      exact own_made HG.out ⟨by rw [P.out.2]; exact Nat.le_refl _, P.out.2, by unfold maxLen; omega⟩
    have B2 : Aside (Below w.heap.size w w2) := hb
    clear HG hb C D hmk
    go_wp2
    go_ret2
    exact Or.inr ⟨(le4_iff _ _ _ _ _).2 (by rw [← T.out, ← E.out, er.out]), _, rfl, R.out.mono D2.out, B2.out⟩
  · have hne : (u r != t) = true := by simp [hr]
    have E : Aside (u r ≠ t) := hr
    clear hr
    go_wp2
    go_ret2
    refine Or.inl ⟨fun h => E.out ?_, rfl, B1.out⟩
    rw [T.out, ← (le4_iff _ _ _ _ _).1 h, er.out]
theorem last_four (l : List (BitVec 8)) (n : Nat) (h : l.length = n + 4) : l = l.take n ++ [l.getD n 0#8, l.getD (n + 1) 0#8, l.getD (n + 2) 0#8, l.getD (n + 3) 0#8] := by
  have e : l.take (n + 4) = l := by rw [List.take_of_length_le (by omega)]
  have h1 := take_one l (n + 3) 0#8 (by omega)
  have h2 := take_one l (n + 2) 0#8 (by omega)
  have h3 := take_one l (n + 1) 0#8 (by omega)
  have h4 := take_one l n 0#8 (by omega)
  rw [show n + 3 + 1 = n + 4 from rfl, e] at h1
  rw [show n + 2 + 1 = n + 3 from rfl] at h2
  rw [show n + 1 + 1 = n + 2 from rfl] at h3
  rw [h2, h3, h4] at h1
  simpa using h1
/-- Is it a sealed string? -/
def isSealed (l : List (BitVec 8)) : Prop := l = sealed (l.take (l.length - 4))
theorem isSealed_iff (l : List (BitVec 8)) (n : Nat) (h : l.length = n + 4) : le4 (upd 0#32 (l.take n)) = [l.getD n 0#8, l.getD (n + 1) 0#8, l.getD (n + 2) 0#8, l.getD (n + 3) 0#8] ↔ isSealed l := by
  have e : l.length - 4 = n := by omega
  unfold isSealed; rw [e]
  constructor
  · intro q; unfold sealed; rw [q]; exact last_four l n h
  · intro q
    have h1 : l.take n ++ [l.getD n 0#8, l.getD (n + 1) 0#8, l.getD (n + 2) 0#8, l.getD (n + 3) 0#8] = l.take n ++ le4 (upd 0#32 (l.take n)) := by
      rw [← last_four l n h]; exact q
    exact (List.append_cancel_left h1).symm

theorem open_at (v : Value) (l : List (BitVec 8)) (w : World) (hv : Bytes w v l) (h4 : 4 ≤ l.length) (hl : l.length ≤ 140737488355304) :
    Calls Try.prog 14 #[v] w fun e w' =>
      (¬ isSealed l ∧ e = .returned (.tuple #[.slice none 0 0, .int .i64 2]) ∧ Below w.heap.size w w') ∨
      (isSealed l ∧ ∃ g, e = .returned (.tuple #[.slice (some ⟨g, 0, none⟩) (l.length - 4) (l.length - 4), .int .i64 0]) ∧ Own w.heap.size w' (.slice (some ⟨g, 0, none⟩) (l.length - 4) (l.length - 4)) (l.take (l.length - 4)) ∧ Below w.heap.size w w') := by
  obtain ⟨n, hn⟩ : ∃ n, l.length = n + 4 := ⟨l.length - 4, by omega⟩
  have e : l.length - 4 = n := by omega
  obtain ⟨a, cap, rfl, hlc, hcm, _, hc⟩ := hv
  obtain ⟨b, off, rfl, _⟩ := hc 0 (by omega)
  have cell : ∀ k, k < l.length → w.cell? ⟨b, off + k, none⟩ = some (.int .u8 (c8 (l.getD k 0#8))) := fun k hk => by
    obtain ⟨b', off', e, h⟩ := hc k hk
    simp only [Option.some.injEq, Addr.mk.injEq] at e
    obtain ⟨rfl, rfl, _⟩ := e
    exact h
  have hp : Bytes w (.slice (some ⟨b, off, none⟩) n cap) (l.take n) := by
    refine ⟨_, cap, by rw [List.length_take, Nat.min_eq_left (by omega)], by rw [List.length_take]; omega, hcm, fun h => by simp at h, fun k hk => ⟨b, off, rfl, ?_⟩⟩
    rw [List.length_take] at hk
    rw [cell k (by omega)]
    simp only [List.getD, List.getElem?_take_of_lt (show k < n by omega)]
  have h := open_long b off n cap (l.take n) (l.getD n 0#8) (l.getD (n + 1) 0#8) (l.getD (n + 2) 0#8) (l.getD (n + 3) 0#8) w (by rw [List.length_take]; omega) (by omega) hcm
    (cell n (by omega)) (cell (n + 1) (by omega)) (cell (n + 2) (by omega)) (cell (n + 3) (by omega)) hp (by omega)
  rw [isSealed_iff l n hn] at h
  rw [hn]
  rw [Nat.add_sub_cancel]
  exact h
theorem open_any (v : Value) (l : List (BitVec 8)) (w : World) (hv : Bytes w v l) (h4 : 4 ≤ l.length) (hl : l.length ≤ 140737488355304) :
    Calls Try.prog 14 #[v] w fun e w' =>
      (¬ isSealed l ∧ e = .returned (.tuple #[.slice none 0 0, .int .i64 2]) ∧ Below w.heap.size w w') ∨
      (isSealed l ∧ ∃ v', e = .returned (.tuple #[v', .int .i64 0]) ∧ Own w.heap.size w' v' (l.take (l.length - 4)) ∧ Below w.heap.size w w') :=
  (open_at v l w hv h4 hl).mono fun _ _ h => by
    rcases h with h | ⟨h1, g, h2, h3, h4⟩
    · exact Or.inl h
    · exact Or.inr ⟨h1, _, h2, h3, h4⟩
end Go.Proofs.Ytfmgegkeidhdfaa
