/-
  THE WALKS of the documents answer: Open.
-/
import Derived.Test.YtfmgegkeidhdfabRef3
import Derived.Test.YtfmgegkeidhdfabBurst
namespace Go.Proofs.Ytfmgegkeidhdfab
open Go.RowKit

set_option maxHeartbeats 1000000 in
theorem ropen_short (v : Value) (l : List (BitVec 8)) (w : World) (hv : Bytes w v l) (hl : l.length < 4) :
    Calls Try.prog 16 #[v] w fun e w' => e = .returned (.tuple #[.slice none 0 0, .int .i64 20]) ∧ w' = w := by
  obtain ⟨a, cap, rfl, hlc, hcm, _, _⟩ := hv
  have h : (l.length : Int) < 4 := by omega
  go_enter Try.func16, Try.ntmps16
  go_wp2
  go_ret2
  exact ⟨rfl, rfl⟩

/-- Two strings that agree up to i. -/
theorem agree_all {l m : List (BitVec 8)} (hl : l.length = m.length) (h : ∀ k, k < l.length → l.getD k 0#8 = m.getD k 0#8) : l = m := by
  apply List.ext_getElem hl
  intro k h1 h2
  have := h k h1
  simpa [h1, h2] using this

set_option maxHeartbeats 1000000 in
theorem ropen_any (v : Value) (l : List (BitVec 8)) (w : World) (hv : Bytes w v l) (h4 : 4 ≤ l.length) (hl : l.length ≤ 140737488355304) :
    Calls Try.prog 16 #[v] w fun e w' =>
      (¬ isSealed l ∧ e = .returned (.tuple #[.slice none 0 0, .int .i64 2]) ∧ Below w.heap.size w w') ∨
      (isSealed l ∧ ∃ v', e = .returned (.tuple #[v', .int .i64 0]) ∧ Bytes w' v' (l.take (l.length - 4)) ∧ Below w.heap.size w w') := by
  obtain ⟨n, hn⟩ : ∃ n, l.length = n + 4 := ⟨l.length - 4, by omega⟩
  have V : Aside (Bytes w v l) := hv
  obtain ⟨a, cap, rfl, hlc, hcm, _, hc⟩ := hv
  obtain ⟨b, off, rfl, _⟩ := hc 0 (by omega)
  clear hc
  unfold maxLen at hcm
  have P : Aside (Bytes w (.slice (some ⟨b, off, none⟩) n cap) (l.take n)) := V.out.take n (by omega)
  have N : Aside (l.length = n + 4) := hn
  rw [hn]
  rw [hn] at hlc hl h4
  clear hn
  rw [Nat.add_sub_cancel]
  go_enter Try.func16, Try.ntmps16
  go_wp2_with fail
  refine (rseal_any _ (l.take n) w P.out (by rw [List.length_take]; omega)).mono ?_
  rintro e w1 ⟨v1, rfl, ho, hb⟩
  have O1 : Aside (Own w.heap.size w1 v1 (sealed (l.take n))) := ho
  have B1 : Aside (Below w.heap.size w w1) := hb
  clear ho hb
  have L1 : Aside ((sealed (l.take n)).length = n + 4) := by rw [Aside, seal_length, List.length_take, N.out]; omega
  obtain ⟨g1, cap1, rfl, hcap1, hg1⟩ : ∃ g1 cap1, v1 = .slice (some ⟨g1, 0, none⟩) (n + 4) cap1 ∧ n + 4 ≤ cap1 ∧ cap1 ≤ 9223372036854775807 := by
    obtain ⟨_, ⟨_, h⟩ | ⟨g, cap', cur, hv, hB, _, hn, hm, _⟩⟩ := O1.out
    · rw [L1.out] at h; omega
    · rw [L1.out] at hv hn; unfold maxLen at hm; exact ⟨g, cap', hv, hn, by omega⟩
  go_wp2_with fail
  go_loopg [6] 4 (fun g si wr => ∃ (i : Nat), n ≤ i ∧ i ≤ n + 4 ∧ g = n + 4 - i ∧ si = .int .i64 i ∧ (∀ k, k < i → l.getD k 0#8 = (sealed (l.take n)).getD k 0#8) ∧ Below w1.heap.size w1 wr)
  case atStart =>
    refine ⟨n, by omega, by omega, by omega, rfl, fun k hk => ?_, Below.refl _ _⟩
    have : k < (l.take n).length := by rw [List.length_take, N.out]; omega
    simp only [sealed, List.getD, List.getElem?_append_left this, List.getElem?_take_of_lt hk]
  case round =>
    obtain ⟨i, hi1, hi2, hg, rfl, hs, hb⟩ := hrel
    have R : Aside (gk = n + 4 - i ∧ (∀ k, k < i → l.getD k 0#8 = (sealed (l.take n)).getD k 0#8) ∧ Below w1.heap.size w1 wr) := ⟨hg, hs, hb⟩
    clear hg hs hb
    by_cases hlt : i < n + 4
    · obtain ⟨c, hc⟩ : ∃ c, c = l.getD i 0#8 := ⟨_, rfl⟩
      obtain ⟨d, hd⟩ : ∃ d, d = (sealed (l.take n)).getD i 0#8 := ⟨_, rfl⟩
      have h1 : wr.cell? ⟨b, off + i, none⟩ = some (.int .u8 (c8 c)) := by
        obtain ⟨aa, cc, e, _, _, _, hcl⟩ := (V.out.below B1.out).below R.out.2.2
        simp only [Value.slice.injEq] at e
        obtain ⟨b', off', ea, h⟩ := hcl i (by rw [N.out]; exact hlt)
        rw [← e.1] at ea
        simp only [Option.some.injEq, Addr.mk.injEq] at ea
        obtain ⟨rfl, rfl, _⟩ := ea
        rw [h, hc]
      have h2 : wr.cell? ⟨g1, i, none⟩ = some (.int .u8 (c8 d)) := by
        obtain ⟨aa, cc, e, _, _, _, hcl⟩ := (O1.out.below R.out.2.2).bytes
        simp only [Value.slice.injEq] at e
        obtain ⟨b', off', ea, h⟩ := hcl i (by rw [L1.out]; exact hlt)
        rw [← e.1] at ea
        simp only [Option.some.injEq, Addr.mk.injEq] at ea
        obtain ⟨rfl, rfl, _⟩ := ea
        rw [Nat.zero_add] at h
        rw [h, hd]
      have D : Aside (c = l.getD i 0#8 ∧ d = (sealed (l.take n)).getD i 0#8) := ⟨hc, hd⟩
      have i1 : (i : Int) < (n : Int) + 4 := by omega
      have i0 : (0 : Int) ≤ (i : Int) := by omega
      clear hc hd
      by_cases hcd : c8 c = c8 d
      · have t : (c8 c != c8 d) = false := by simp [hcd]
        have Q : Aside (c8 c = c8 d) := hcd
        clear hcd
        go_wp2_with fail
        go_quiet (fail)
        go_wp2_with fail
        go_roundg (n + 4 - (i + 1))
        case measure => have := R.out.1; omega
        case rel =>
          refine ⟨i + 1, by omega, by omega, rfl, by go_num, fun k hk => ?_, R.out.2.2.trans ⟨rfl, rfl, rfl, Nat.le_refl _, fun _ _ => rfl⟩⟩
          by_cases q : k < i
          · exact R.out.2.1 k q
          · obtain rfl : k = i := by omega
            rw [← D.out.1, ← D.out.2]; exact c8_inj Q.out
      · have t : (c8 c != c8 d) = true := by simp [hcd]
        have Q : Aside (¬ c8 c = c8 d) := hcd
        clear hcd
        go_wp2_with fail
        go_quiet (fail)
        go_wp2_with fail
        go_ret2
        refine Or.inl ⟨fun h => Q.out ?_, rfl, (B1.out.trans (R.out.2.2.mono B1.out.size)).trans ⟨rfl, rfl, rfl, Nat.le_refl _, fun _ _ => rfl⟩⟩
        unfold isSealed at h
        rw [N.out, Nat.add_sub_cancel] at h
        rw [D.out.1, D.out.2, ← h]
    · go_wp2_with fail
      go_ret2
      have e : l = sealed (l.take n) := agree_all (by rw [L1.out]; exact N.out) (fun k hk => R.out.2.1 k (by rw [N.out] at hk; omega))
      refine Or.inr ⟨?_, _, rfl, ?_, B1.out.trans (R.out.2.2.mono B1.out.size)⟩
      · unfold isSealed; rw [N.out, Nat.add_sub_cancel]; exact e
      · have o := (O1.out.below R.out.2.2).bytes
        have e2 : (sealed (l.take n)).take n = l.take n := by rw [← e]
        rw [← L1.out] at o
        have t := o.take n (by rw [L1.out]; omega)
        rw [e2] at t
        exact t
end Go.Proofs.Ytfmgegkeidhdfab
