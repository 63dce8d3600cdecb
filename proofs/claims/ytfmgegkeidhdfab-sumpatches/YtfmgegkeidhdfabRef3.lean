/-
  THE WALKS of the documents answer: Seal.
-/
import Derived.Test.YtfmgegkeidhdfabRef1
import Derived.Test.YtfmgegkeidhdfabRef3a
namespace Go.Proofs.Ytfmgegkeidhdfab
open Go.RowKit

theorem u_tdiv8 (x : BitVec 32) : (u x).tdiv 256 % (4294967296 : Int) = u (x >>> 8) := by
  have h0 := u_lo (x >>> 8)
  have h1 := u_hi (x >>> 8)
  have e : u x / (256 : Int) = u (x >>> 8) := by have := shr_u x 8; simpa using this
  rw [Int.tdiv_eq_ediv_of_nonneg (u_lo x), e]; omega
theorem le4_at (r : BitVec 32) (i : Nat) (h : i < 4) : (le4 r).getD i 0#8 = (r >>> (8 * i)).setWidth 8 := by
  match i, h with
  | 0, _ => simp [le4]
  | 1, _ => rfl
  | 2, _ => rfl
  | 3, _ => rfl
set_option maxHeartbeats 1000000 in
theorem rseal_any (v : Value) (l : List (BitVec 8)) (w : World) (hv : Bytes w v l) (hl : l.length ≤ 140737488355300) :
    Calls Try.prog 17 #[v] w fun e w' => ∃ v', e = .returned v' ∧ Own w.heap.size w' v' (sealed l) ∧ Below w.heap.size w w' := by
  obtain ⟨i0, hi, hz0, hz1, hz2⟩ := info_parts info_byte
  have V : Aside (Bytes w v l) := hv
  obtain ⟨a, cap, rfl, hlc, hcm, _, _⟩ := hv
  unfold maxLen at hcm
  go_enter Try.func17, Try.ntmps17
  go_wp2_with fail
  go_loopg [3, 4] l.length (fun g so si wr => ∃ (k : Nat) (vo : Value), k ≤ l.length ∧ g = l.length - k ∧ si = .int .i64 k ∧ vo = so ∧ Own w.heap.size wr vo (l.take k) ∧ Below w.heap.size w wr)
  case atStart => exact ⟨0, _, Nat.zero_le _, rfl, rfl, rfl, World.ownsRow_nil w _ _ _, Below.refl _ _⟩
  case round =>
    obtain ⟨k, vo, hk, hg, rfl, rfl, ho, hb⟩ := hrel
    have R : Aside (gk = l.length - k ∧ Own w.heap.size wr vo (l.take k) ∧ Below w.heap.size w wr) := ⟨hg, ho, hb⟩
    clear hg ho hb
    by_cases hlt : k < l.length
    · obtain ⟨c, hc⟩ : ∃ c, c = l.getD k 0#8 := ⟨_, rfl⟩
      obtain ⟨b1, off1, rfl, hc1⟩ : ∃ b1 off1, a = some ⟨b1, off1, none⟩ ∧ wr.cell? ⟨b1, off1 + k, none⟩ = some (.int .u8 (c8 c)) := by
        obtain ⟨aa, cc, e, _, _, _, hcl⟩ := V.out.below R.out.2.2
        simp only [Value.slice.injEq, true_and] at e
        obtain ⟨rfl, rfl⟩ := e
        rw [hc]; exact hcl k hlt
      have C : Aside (c = l.getD k 0#8) := hc
      clear hc
      have O : Hid (wr.ownsRow w.heap.size 5 1 vo k (cells8 (l.take k))) := by
        have := R.out.2.1; unfold Own at this; rw [List.length_take, Nat.min_eq_left hk] at this; exact this
      have S : Hid (w.heap.size ≤ wr.heap.size) := R.out.2.2.size
      go_wp2_with (at_builtin; refine wpList_append_own _ rfl _ _ 22 rfl w.heap.size 5 i0 (.int .u8 0) 1 1 Try.underlying22 hi hz0 hz1 hz2 rfl (by decide) vo k (cells8 (l.take k)) rfl (O.out.alloc _) ⟨wr.heap.size, 0, none⟩ 1 1 [.int .u8 (c8 c)] rfl rfl ?c1 ?c2 ?c3 ?c4 ?c5 ?_)
      case c1 => exact one_cell
      case c2 => intro v hv; simp only [List.mem_cons, List.not_mem_nil, or_false] at hv; rw [hv]; rfl
      case c3 => unfold maxLen; omega
      case c4 => omega
      case c5 => have := S.out; simp; omega
      intro v' w' ho hg hnil
      have A : Aside (Own w.heap.size w' v' (l.take k ++ [c]) ∧ Below w.heap.size w w') :=
        ⟨own_more (by rw [List.length_take, Nat.min_eq_left hk]; exact ho), below_more R.out.2.2 R.out.2.1 R.out.2.2.size hg⟩
      clear ho hg hnil O S
      go_wp2_with fail
      go_roundg (l.length - (k + 1))
      case measure => have := R.out.1; omega
      case rel => exact ⟨k + 1, v', by omega, rfl, by go_num, rfl, by rw [take_one l k 0#8 hlt, ← C.out]; exact A.out.1, A.out.2⟩
    · obtain ⟨w1, hw1⟩ : ∃ w1, w1 = wr := ⟨_, rfl⟩
      subst hw1
      have R1 : Aside (Own w.heap.size w1 vo l ∧ Below w.heap.size w w1) := by
        obtain ⟨_, ho, hb⟩ := R.out
        rw [List.take_of_length_le (by omega)] at ho; exact ⟨ho, hb⟩
      clear R
      go_wp2_with fail
      refine (rsum_any _ l w1 (V.out.below R1.out.2)).mono ?_
      rintro e w1 ⟨rfl, rfl⟩
      obtain ⟨r, hr⟩ : ∃ r, r = upd 0#32 l := ⟨_, rfl⟩
      rw [← hr]
      have E : Aside (r = upd 0#32 l) := hr
      clear hr
      go_wp2_with fail
      go_loopg [3, 5, 6] 4 (fun g so ss si wr => ∃ (j : Nat) (vo : Value), j ≤ 4 ∧ g = 4 - j ∧ si = .int .i64 j ∧ vo = so ∧ ss = .int .u32 (u (r >>> (8 * j))) ∧ Own w.heap.size wr vo (l ++ (le4 r).take j) ∧ Below w.heap.size w wr)
      case atStart => exact ⟨0, _, by omega, rfl, rfl, rfl, by simp, by simpa using R1.out.1, R1.out.2⟩
      case round =>
        obtain ⟨j, vp, hj, hg, rfl, rfl, rfl, ho, hb⟩ := hrel
        have R : Aside (gk = 4 - j ∧ Own w.heap.size wr vp (l ++ (le4 r).take j) ∧ Below w.heap.size w wr) := ⟨hg, ho, hb⟩
        clear hg ho hb
        by_cases hlt : j < 4
        · obtain ⟨x, hx⟩ : ∃ x, x = r >>> (8 * j) := ⟨_, rfl⟩
          rw [← hx]
          have X : Aside (x = r >>> (8 * j)) := hx
          clear hx
          have x0 := u_lo x
          have len : (l ++ (le4 r).take j).length = l.length + j := by simp [le4]; omega
          have O : Hid (wr.ownsRow w.heap.size 5 1 vp (l.length + j) (cells8 (l ++ (le4 r).take j))) := by
            have := R.out.2.1; unfold Own at this; rw [len] at this; exact this
          have S : Hid (w.heap.size ≤ wr.heap.size) := R.out.2.2.size
          have L : Aside ((l ++ (le4 r).take j).length = l.length + j) := len
          clear len
          go_wp2_with (at_builtin; refine wpList_append_own _ rfl _ _ 22 rfl w.heap.size 5 i0 (.int .u8 0) 1 1 Try.underlying22 hi hz0 hz1 hz2 rfl (by decide) vp (l.length + j) (cells8 (l ++ (le4 r).take j)) rfl (O.out.alloc _) ⟨wr.heap.size, 0, none⟩ 1 1 [.int .u8 (u x % 256)] rfl rfl ?d1 ?d2 ?d3 ?d4 ?d5 ?_)
          case d1 => exact one_cell
          case d2 => intro v hv; simp only [List.mem_cons, List.not_mem_nil, or_false] at hv; rw [hv]; rfl
          case d3 => unfold maxLen; omega
          case d4 => omega
          case d5 => have := S.out; simp; omega
          intro v' w' ho hg hnil
          rw [u_low] at ho
          have A : Aside (Own w.heap.size w' v' (l ++ (le4 r).take j ++ [x.setWidth 8]) ∧ Below w.heap.size w w') :=
            ⟨own_more (by rw [L.out]; exact ho), below_more R.out.2.2 R.out.2.1 R.out.2.2.size hg⟩
          clear ho hg hnil O S
          go_wp2_with fail
          go_roundg (4 - (j + 1))
          case measure => have := R.out.1; omega
          case rel =>
            refine ⟨j + 1, v', by omega, rfl, by go_num, rfl, ?_, ?_, A.out.2⟩
            · rw [u_tdiv8, X.out, ← BitVec.shiftRight_add]; rfl
            · rw [take_one (le4 r) j 0#8 (by simp [le4]; omega), le4_at r j hlt, ← X.out, ← List.append_assoc]; exact A.out.1
        · go_wp2_with fail
          go_ret
          obtain ⟨_, ho, hb⟩ := R.out
          rw [List.take_of_length_le (by simp [le4]; omega), E.out] at ho
          exact ⟨_, rfl, ho, hb⟩
end Go.Proofs.Ytfmgegkeidhdfab
