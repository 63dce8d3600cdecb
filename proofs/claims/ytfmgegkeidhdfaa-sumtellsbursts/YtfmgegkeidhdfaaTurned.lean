/-
  THE WALK of the laws turned.
-/
import Derived.Test.YtfmgegkeidhdfaaBurst
import Derived.RegionTactic
import Derived.BigRegion
import Derived.Laws.OwnMore
namespace Go.Proofs.Ytfmgegkeidhdfaa
open Go.RowKit

/-- The burst so far: the bits below i. -/
def Flipped (l c : List (BitVec 8)) (at' i : Nat) : Prop :=
  c.length = l.length ∧ ∃ m : BitVec 32, (m = 0#32 → c = l) ∧ (∀ j, i ≤ j → m.getLsbD j = false) ∧ ∀ x, over x c = over x l ^^^ shN (8 * l.length - at') m
theorem Flipped.start (l : List (BitVec 8)) (at' : Nat) : Flipped l l at' 0 :=
  ⟨rfl, 0#32, fun _ => rfl, fun j _ => by simp, fun x => by rw [shN_zero]; simp⟩
theorem Flipped.keep {l c : List (BitVec 8)} {at' i : Nat} (h : Flipped l c at' i) : Flipped l c at' (i + 1) := by
  obtain ⟨h0, m, h1, h2, h3⟩ := h
  exact ⟨h0, m, h1, fun j hj => h2 j (by omega), h3⟩
theorem Flipped.turn {l c : List (BitVec 8)} {at' i : Nat} (h : Flipped l c at' i) (hi : i < 32) (hk : at' + i < 8 * l.length) :
    Flipped l (c.set ((at' + i) / 8) (c.getD ((at' + i) / 8) 0#8 ^^^ 1#8 <<< ((at' + i) % 8))) at' (i + 1) := by
  obtain ⟨h0, m, h1, h2, h3⟩ := h
  refine ⟨by rw [List.length_set]; exact h0, m ^^^ 1#32 <<< i, fun e => ?_, fun j hj => ?_, fun x => ?_⟩
  · have := congrArg (fun y => y.getLsbD i) e
    simp only [BitVec.getLsbD_xor, h2 i (Nat.le_refl _), BitVec.getLsbD_shiftLeft] at this
    simp [hi] at this
  · rw [BitVec.getLsbD_xor, h2 j (by omega), BitVec.getLsbD_shiftLeft, BitVec.getLsbD_one]
    have : ¬ (j - i = 0) := by omega
    simp [this]
  · rw [flip c ((at' + i) / 8) ((at' + i) % 8) x (by omega) (by omega), h3 x, shN_xor, BitVec.xor_assoc]
    congr 2
    rw [h0]
    have e : 8 * l.length - at' = i + (8 * l.length - (at' + i)) := by omega
    rw [e, shN_bit i _ hi]
    congr 1; omega
theorem Flipped.burst {l c : List (BitVec 8)} {at' i : Nat} (h : Flipped l c at' i) : Burst l c := by
  obtain ⟨h0, m, h1, _, h3⟩ := h
  exact ⟨h0, m, _, h1, h3⟩

theorem u8_turn (y : BitVec 8) (r : Nat) (hr : r < 8) : bits .xor .u8 (c8 y) (2 ^ r % 256) = c8 (y ^^^ 1#8 <<< r) := by
  have key : ∀ r : Fin 8, ((2 : Int) ^ r.val % 256) = c8 (1#8 <<< r.val) := by decide
  rw [key ⟨r, hr⟩]; exact bits_xor_c _ _
theorem own_stored {B : Nat} {w : World} {g n cap : Nat} {c : List (BitVec 8)} (h : Own B w (.slice (some ⟨g, 0, none⟩) n cap) c) (q : Nat) (z : BitVec 8) :
    Own B (w.setCell ⟨g, q, none⟩ (.int .u8 (c8 z))).drew (.slice (some ⟨g, 0, none⟩) n cap) (c.set q z) := by
  have hn : n = c.length := by
    obtain ⟨_, ⟨hv, _⟩ | ⟨g', cap', cur, hv, _⟩⟩ := h
    · simp at hv
    · simp only [Value.slice.injEq] at hv; exact hv.2.1
  subst hn
  have h1 : w.ownsRow B 5 1 (.slice (some ⟨g, 0, none⟩) c.length cap) c.length (cells8 c) := h
  have h2 := (h1.stored q (.int .u8 (c8 z))).1.drew
  have e : (cells8 c).set q (.int .u8 (c8 z)) = cells8 (c.set q z) := by simp [cells8, List.map_set]
  rw [e] at h2
  show World.ownsRow _ _ _ _ _ _ _
  rw [List.length_set]; exact h2

set_option maxHeartbeats 1000000 in
theorem turned_any (v : Value) (l : List (BitVec 8)) (at' : Nat) (x : BitVec 32) (w : World) (hv : Bytes w v l) (hl : l.length ≤ 140737488355300) (ha : at' ≤ 1125899906842624) :
    Calls Try.prog 19 #[v, .int .i64 at', .int .u32 (u x)] w fun e w' => ∃ v' c, e = .returned v' ∧ Own w.heap.size w' v' c ∧ Burst l c ∧ Below w.heap.size w w' := by
  have V : Aside (Bytes w v l) := hv
  clear hv
  go_enter Try.func19, Try.ntmps19
  go_wp2_with fail
  refine (dup_any v l w V.out (by omega)).mono ?_
  rintro e w1 ⟨v1, rfl, ho, hb⟩
  have O1 : Aside (Own w.heap.size w1 v1 l) := ho
  have B1 : Aside (Below w.heap.size w w1) := hb
  have sh : Aside (∃ a cap, v1 = .slice a l.length cap) := by
    obtain ⟨a, cap, e, _⟩ := ho.bytes; exact ⟨a, cap, e⟩
  clear ho hb V
  obtain ⟨a, cap, rfl⟩ := sh.out
  clear sh
  go_wp2_with fail
  go_loopg [8, 9] 32 (fun g si sk wr => ∃ (i : Nat) (vk : Value) (c : List (BitVec 8)), i ≤ 32 ∧ g = 32 - i ∧ si = .int .i64 i ∧ sk = vk ∧ Own w.heap.size wr (.slice a l.length cap) c ∧ Flipped l c at' i ∧ Below w.heap.size w wr)
  case atStart => exact ⟨0, _, l, by omega, rfl, rfl, rfl, O1.out, Flipped.start l at', B1.out⟩
  case round =>
    obtain ⟨i, vk, c, hi, hg, rfl, rfl, ho, hf, hb⟩ := hrel
    have A : Aside (gk = 32 - i ∧ Own w.heap.size wr (.slice a l.length cap) c ∧ Flipped l c at' i ∧ Below w.heap.size w wr) := ⟨hg, ho, hf, hb⟩
    clear hg ho hf hb O1 B1
    by_cases hlt : i < 32
    · go_wp2_with fail
      · have hk : (at' : Int) + (i : Int) < 8 * (l.length : Int) := by assumption
        obtain ⟨ho, hf⟩ : Own w.heap.size wr (.slice a l.length cap) c ∧ Flipped l c at' i := ⟨A.out.2.1, A.out.2.2.1⟩
        obtain ⟨g, rfl, hg⟩ : ∃ g, a = some ⟨g, 0, none⟩ ∧ w.heap.size ≤ g := by
          obtain ⟨_, ⟨hv, _⟩ | ⟨g, cap', cur, hv, hB, _⟩⟩ := ho
          · simp only [Value.slice.injEq] at hv; omega
          · simp only [Value.slice.injEq] at hv; exact ⟨g, hv.1, hB⟩
        obtain ⟨q, hq⟩ : ∃ q, q = (at' + i) / 8 := ⟨_, rfl⟩
        obtain ⟨r, hr⟩ : ∃ r, r = (at' + i) % 8 := ⟨_, rfl⟩
        have q1 : ((at' : Int) + (i : Int)) / 8 = (q : Int) := by omega
        have r1 : ((at' : Int) + (i : Int)) % 8 = (r : Int) := by omega
        have q2 : (q : Int) < (l.length : Int) := by omega
        have q3 : q < c.length := by rw [hf.1]; omega
        have r2 : r < 8 := by omega
        have hlen : c.length = l.length := hf.1
        have ho' : wr.ownsRow w.heap.size 5 1 (.slice (some ⟨g, 0, none⟩) l.length cap) l.length (cells8 c) := by rw [← hlen]; have := ho; unfold Own at this; rw [hlen] at this; rw [hlen]; exact this
        have hcell : wr.cell? ⟨g, q, none⟩ = some (.int .u8 (c8 (c.getD q 0#8))) := by rw [ho'.cellAt q (by omega), cells8_at q3]
        have hfro : wr.frozen? ⟨g, q, none⟩ = false := ho'.frozenAt q
        obtain ⟨y, hy⟩ : ∃ y, y = c.getD q 0#8 := ⟨_, rfl⟩
        rw [← hy] at hcell
        have D : Aside (q = (at' + i) / 8 ∧ r = (at' + i) % 8 ∧ y = c.getD q 0#8) := ⟨hq, hr, hy⟩
        clear hq hr hy ho hf ho' q3 hlen
        go_region
        go_wp2_with fail
        go_roundg (32 - (i + 1))
        case measure => have := A.out.1; omega
        case rel =>
          obtain ⟨hq, hr, hy⟩ := D.out
          obtain ⟨_, ho, hf, hb⟩ := A.out
          refine ⟨i + 1, _, c.set q (y ^^^ 1#8 <<< r), by omega, rfl, by go_num, rfl, ?_, ?_, ?_⟩
          · rw [u8_turn y r r2]; exact own_stored ho q _
          · rw [hy, hq, hr]; exact hf.turn hlt (by omega)
          · exact (hb.setCell hg _).drew
      all_goals
        go_roundg (32 - (i + 1))
        case measure => have := A.out.1; omega
        case rel => exact ⟨i + 1, _, c, by omega, rfl, by go_num, rfl, A.out.2.1, A.out.2.2.1.keep, A.out.2.2.2⟩
    · go_wp2_with fail
      go_ret
      obtain ⟨_, ho, hf, hb⟩ := A.out
      exact ⟨_, c, rfl, ho, hf.burst, hb⟩
end Go.Proofs.Ytfmgegkeidhdfaa
