/-
  THE WALKS of the laws roomy and marked.
-/
import Derived.Test.YtfmgegkeidhdfabWalk8
import Derived.Test.YtfmgegkeidhdfabWalk9
namespace Go.Proofs.Ytfmgegkeidhdfab
open Go.RowKit

/-- The marks. -/
def marks : List (BitVec 8) := [171#8, 172#8, 173#8]

set_option maxHeartbeats 1000000 in
theorem roomy_any (v : Value) (l : List (BitVec 8)) (w : World) (hv : Bytes w v l) (hl : l.length ≤ 140737488355300) :
    Calls Try.prog 8 #[v] w fun e w' => ∃ g cap, e = .returned (.slice (some ⟨g, 0, none⟩) l.length cap) ∧ l.length + 3 ≤ cap ∧ Own w.heap.size w' (.slice (some ⟨g, 0, none⟩) (l.length + 3) cap) (l ++ marks) ∧ Below w.heap.size w w' := by
  obtain ⟨i0, hi, hz0, hz1, hz2⟩ := info_parts info_byte
  have V : Aside (Bytes w v l) := hv
  obtain ⟨a, cap, rfl, hlc, hcm, _, _⟩ := hv
  unfold maxLen at hcm
  go_enter Try.func8, Try.ntmps8
  go_wp2_with fail
  refine (dup_any _ l w V.out (by omega)).mono ?_
  rintro e w1 ⟨v1, rfl, ho, hb⟩
  have O1 : Hid (w1.ownsRow w.heap.size 5 1 v1 l.length (cells8 l)) := ho
  have B1 : Aside (Below w.heap.size w w1 ∧ Own w.heap.size w1 v1 l) := ⟨hb, ho⟩
  have S : Hid (w.heap.size ≤ w1.heap.size) := hb.size
  clear ho hb
  go_wp2_with (at_builtin; refine wpList_append_own _ rfl _ _ 22 rfl w.heap.size 5 i0 (.int .u8 0) 1 1 Try.underlying22 hi hz0 hz1 hz2 rfl (by decide) v1 l.length (cells8 l) rfl (O1.out.alloc _) ⟨w1.heap.size, 0, none⟩ 3 3 [.int .u8 171, .int .u8 172, .int .u8 173] rfl rfl ?c1 ?c2 ?c3 ?c4 ?c5 ?_)
  case c1 => exact fun j v hv => new_cells w1 #[.int .u8 171, .int .u8 172, .int .u8 173] j v hv
  case c2 => intro v hv; simp only [List.mem_cons, List.not_mem_nil, or_false] at hv; rcases hv with rfl | rfl | rfl <;> rfl
  case c3 => unfold maxLen; omega
  case c4 => omega
  case c5 => have := S.out; simp; omega
  intro v' w' ho hg hnil
  have e3 : cells8 l ++ [.int .u8 171, .int .u8 172, .int .u8 173] = cells8 (l ++ marks) := by rw [cells8_app]; rfl
  rw [e3] at ho
  obtain ⟨g, cap', rfl, hcap, hcm'⟩ : ∃ g cap', v' = .slice (some ⟨g, 0, none⟩) (l.length + 3) cap' ∧ l.length + 3 ≤ cap' ∧ cap' ≤ maxLen := by
    obtain ⟨_, ⟨_, h⟩ | ⟨g, cap', cur, hv, hB, _, hn, hm, _⟩⟩ := ho
    · omega
    · exact ⟨g, cap', hv, hn, hm⟩
  unfold maxLen at hcm'
  have A : Aside (Own w.heap.size w' (.slice (some ⟨g, 0, none⟩) (l.length + 3) cap') (l ++ marks) ∧ Below w.heap.size w w') :=
    ⟨by show w'.ownsRow _ _ _ _ _ _; rw [List.length_append]; exact ho, (B1.out.1.alloc B1.out.1.size _).grown hg (by have := S.out; simp; omega) (fun k hk => (World.ownsRow.lt B1.out.2 k hk).1)⟩
  clear ho hg hnil e3 O1 S
  go_wp2_with fail
  go_ret
  exact ⟨g, cap', rfl, hcap, A.out.1, A.out.2⟩

set_option maxHeartbeats 1000000 in
theorem marked_any (g n cap : Nat) (v : Value) (l : List (BitVec 8)) (w : World) (hn : l.length = n) (hx : Bytes w (.slice (some ⟨g, 0, none⟩) (n + 3) cap) (l ++ marks)) (hv : Bytes w v l) :
    Calls Try.prog 12 #[.slice (some ⟨g, 0, none⟩) n cap, v] w fun e w' => e = .returned (.bool true) ∧ w' = w := by
  have V : Aside (Bytes w v l ∧ Bytes w (.slice (some ⟨g, 0, none⟩) n cap) l) := by
    refine ⟨hv, ?_⟩
    have e : (l ++ marks).length = n + 3 := by rw [List.length_append, hn]; rfl
    have h := hx
    rw [← e] at h
    have h2 := h.take n (by rw [e]; omega)
    have e2 : (l ++ marks).take n = l := by rw [← hn]; simp
    rw [e2] at h2; exact h2
  obtain ⟨a', cap', e, hlc, hcm, _, hc⟩ := hx
  simp only [Value.slice.injEq] at e
  obtain ⟨rfl, e2, rfl⟩ := e
  rw [← e2] at hlc
  have cell : ∀ i, i < 3 → w.cell? ⟨g, n + i, none⟩ = some (.int .u8 (c8 (marks.getD i 0#8))) := fun i hi => by
    obtain ⟨b', off', ea, h⟩ := hc (n + i) (by rw [← e2]; omega)
    simp only [Option.some.injEq, Addr.mk.injEq] at ea
    obtain ⟨rfl, rfl, _⟩ := ea
    rw [Nat.zero_add] at h
    rw [h]
    congr 3
    simp only [List.getD, List.getElem?_append_right (show l.length ≤ n + i by omega)]
    rw [show n + i - l.length = i by omega]
  have m0 : w.cell? ⟨g, n, none⟩ = some (.int .u8 171) := cell 0 (by omega)
  have m1 : w.cell? ⟨g, n + 1, none⟩ = some (.int .u8 172) := cell 1 (by omega)
  have m2 : w.cell? ⟨g, n + 2, none⟩ = some (.int .u8 173) := cell 2 (by omega)
  clear hc cell e2
  unfold maxLen at hcm
  go_enter Try.func12, Try.ntmps12
  go_wp2_with fail
  refine (same_yes _ _ l w V.out.2 V.out.1).mono ?_
  rintro e w' ⟨rfl, rfl⟩
  go_wp2_with fail
  go_ret
  exact ⟨rfl, rfl⟩
end Go.Proofs.Ytfmgegkeidhdfab
