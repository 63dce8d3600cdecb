/-
  THE DOCUMENT'S DEVICE: medium, Read, Raw, act, Arm, Counts.
-/
import Derived.Test.YtbdlebengmbooaaRfB
import Derived.Test.YtbdlebengmbooaaBlkA
import Derived.Deep.RegionHeld3
namespace Go.Proofs.Ytbdlebengmbooaa
open Go.RowKit Go.Maps
namespace Rf
variable {B B' n : Nat} {w w' w1 : World} {x : Nat} {bv lv kv : Value} {s s' : RD}
/-- A block of the medium at the beginning. -/
def R0 (s : RD) (b : Nat) : List UInt8 := if s.base = [] then List.replicate 512 0 else raw s.base b
theorem R0_length (h : s.base = [] ∨ s.base.length = 512 * s.n) (b : Nat) (hb : b < s.n) : (R0 s b).length = 512 := by
  unfold R0
  split
  · rw [List.length_replicate]
  · rcases h with h | h
    · exact absurd h (by assumption)
    · exact raw_length _ _ (by rw [h]; omega)
def rawR (s : RD) (b : Nat) : List UInt8 := playedL (R0 s b) s.laid b
theorem own_at {v : Value} {l : List UInt8} (H : Own B w v l) (k : Nat) (hk : k < l.length) : ∃ b off cap, v = .slice (some ⟨b, off, none⟩) l.length cap ∧ l.length ≤ cap ∧ cap ≤ maxLen ∧ w.cell? ⟨b, off + k, none⟩ = some (.int .u8 (c8 (l.getD k 0))) := by
  obtain ⟨a, cap, e, h1, h2, _, h3⟩ := H.bytes
  obtain ⟨b, off, ea, hc⟩ := h3 k hk
  subst ea
  exact ⟨b, off, cap, e, h1, h2, hc⟩
set_option maxHeartbeats 8000000 in
set_option maxRecDepth 100000 in
theorem rmedium_any (h : Rd B w x bv lv kv s) (b : Nat) (hb : b < s.n) :
    Calls Try.prog 62 #[.pointer (some ⟨x, 0, none⟩), .int .i64 (b : Int)] w fun e w' => e = .returned (.slice (some ⟨w.heap.size, 0, none⟩) 512 512) ∧ Own w.heap.size w' (.slice (some ⟨w.heap.size, 0, none⟩) 512 512) (rawR s b) ∧ Below w.heap.size w w' := by
  have H := Lib.hid h
  obtain ⟨Y, hY⟩ : ∃ Y, Y = w.alloc (.cells (madeCells #[.int .u8 0] 512) 5) := ⟨_, rfl⟩
  obtain ⟨g, hg⟩ : ∃ g, g = w.heap.size := ⟨_, rfl⟩
  have hmk : (Instr.makeSlice 35 (.int .i64 512) (.int .i64 512)).run Try.prog w = .ok (.slice (some ⟨g, 0, none⟩) 512 512) Y := by rw [hY, hg]; exact make_bytes w 512 512 rfl rfl (Nat.le_refl _) (by omega)
  have BY : Hid (Below w.heap.size w Y) := Lib.hid (by rw [hY]; exact (Below.refl _ _).alloc (Nat.le_refl _) _)
  have OY : Hid (Own w.heap.size Y (.slice (some ⟨g, 0, none⟩) 512 512) (List.replicate 512 0)) := Lib.hid (own_of (by rw [hY, hg, heap_alloc_new, made_zeros]) (by omega) (by rw [List.length_replicate]) (by decide))
  have GG := Lib.hid hg
  have PL : Hid (∀ w1 p, Below w.heap.size w w1 → Own w.heap.size w1 (.slice (some ⟨g, 0, none⟩) 512 512) p → p.length = 512 → Calls Try.prog 61 #[.slice (some ⟨g, 0, none⟩) 512 512, lv, .int .i64 (b : Int)] w1 fun e w' => e = .returned (.slice (some ⟨g, 0, none⟩) 512 512) ∧ Own w.heap.size w' (.slice (some ⟨g, 0, none⟩) 512 512) (playedL p s.laid b) ∧ Below w.heap.size w w') := Lib.hid (fun w1 p h1 ho hp => by
    have h1' := H.out.below h1
    refine (played_any g 512 p lv s.laid b w1 ho hp h1'.laid h1'.ll (fun y hy e => ?_)).mono ?_
    · have := ((H.out.ll y hy).own.lt g e).2
      have := GG.out
      omega
    · rintro e w' ⟨rfl, ho', hk⟩
      exact ⟨rfl, ho', h1.trans (hk.below h1.size (fun y e => by rw [e, GG.out]; exact Nat.le_refl _))⟩)
  have CB : Hid (∀ w1, Below w.heap.size w w1 → w1.cell? ⟨x, 1, none⟩ = some bv ∧ w1.cell? ⟨x, 2, none⟩ = some lv ∧ Own B w1 bv s.base) := Lib.hid (fun w1 h1 => ⟨(H.out.below h1).cell 1, (H.out.below h1).cell 2, (H.out.below h1).base⟩)
  rw [← hg]
  clear h hY hg
  obtain ⟨d1, d2, _⟩ := CB.out Y BY.out
  rcases H.out.bl with hbl | hbl
  · have e0 : bv = .slice none 0 0 ∨ ∃ a c, bv = .slice a 0 c := by
      obtain ⟨a, c, e, _⟩ := H.out.base.bytes
      rw [hbl] at e
      exact .inr ⟨a, c, e⟩
    have e1 : ∃ a c, bv = .slice a 0 c := by
      rcases e0 with e0 | e0
      · exact ⟨none, 0, e0⟩
      · exact e0
    obtain ⟨a, c, rfl⟩ := e1
    have F0 : Hid (rawR s b = playedL (List.replicate 512 0) s.laid b) := Lib.hid (by unfold rawR R0; rw [if_pos hbl])
    clear e0
    go_enter Try.func62, Try.ntmps62
    go_wp2_with fail
    go_loopg [6] 1 (fun gg si wr => gg = 1 ∧ si = .int .i64 0 ∧ wr = Y)
    case atStart => exact ⟨rfl, rfl, rfl⟩
    case round =>
      obtain ⟨hgk, rfl, rfl⟩ := hrel
      go_wp2_with fail
      refine (PL.out _ _ BY.out OY.out (by rw [List.length_replicate])).mono ?_
      rintro e w' ⟨rfl, ho, hb'⟩
      rw [← GG.out] at ho hb'
      have P := Lib.hid (And.intro ho hb')
      clear ho hb'
      go_wp2_with fail
      go_ret
      exact ⟨rfl, by rw [F0.out]; exact P.out.1, P.out.2⟩
  · have nz : s.base ≠ [] := fun e => by
      rw [e] at hbl
      have := H.out.n.1
      simp at hbl
      omega
    have F0 : Hid (rawR s b = playedL (raw s.base b) s.laid b) := Lib.hid (by unfold rawR R0; rw [if_neg nz])
    have RL : Hid ((raw s.base b).length = 512) := Lib.hid (raw_length _ _ (by rw [hbl]; omega))
    have HN := Lib.hid H.out.n
    have HB := Lib.hid hb
    have LB := Lib.hid hbl
    obtain ⟨ba, bo, bc, e, bc1, bc2, _⟩ := own_at H.out.base 0 (by rw [hbl]; have := H.out.n.1; omega)
    obtain ⟨N, hN⟩ : ∃ N, N = s.base.length := ⟨_, rfl⟩
    rw [← hN] at e bc1
    subst e
    have NB : Hid (N = 512 * s.n) := Lib.hid (by rw [hN, hbl])
    have CA : Hid (∀ w1, Below w.heap.size w w1 → ∀ i, i < 512 → w1.cell? ⟨ba, bo + (b * 512 + i), none⟩ = some (.int .u8 (c8 ((raw s.base b).getD i 0)))) := Lib.hid (fun w1 h1 i hi => by
      obtain ⟨ba', bo', bc', e, _, _, hc⟩ := own_at (CB.out w1 h1).2.2 (b * 512 + i) (by rw [LB.out]; have := HB.out; omega)
      simp only [Value.slice.injEq, Option.some.injEq, Addr.mk.injEq, and_true] at e
      obtain ⟨⟨rfl, rfl⟩, _⟩ := e
      have er : (raw s.base b).getD i 0 = s.base.getD (b * 512 + i) 0 := by
        rw [List.getD_eq_getElem?_getD, raw_at _ _ _ hi, List.getD_eq_getElem?_getD, Nat.mul_comm]
      rw [er]; exact hc)
    have bcm : bc ≤ 9223372036854775807 := by unfold maxLen at bc2; omega
    clear bc2 nz hbl hN d1
    go_enter Try.func62, Try.ntmps62
    go_wp2_with fail
    go_loopg [6] 512 (fun gg si wr => ∃ i : Nat, i ≤ 512 ∧ gg = 512 - i ∧ si = .int .i64 i ∧ Hid (Own w.heap.size wr (.slice (some ⟨g, 0, none⟩) 512 512) (splice (List.replicate 512 0) 0 ((raw s.base b).take i)) ∧ Below w.heap.size w wr))
    case atStart => exact ⟨0, by omega, rfl, rfl, Lib.hid ⟨by rw [List.take_zero, splice_nil]; exact OY.out, BY.out⟩⟩
    case round =>
      clear hmk d2
      obtain ⟨i, hi, hgk, rfl, S⟩ := hrel
      have G := Lib.hid hgk
      clear hgk
      obtain ⟨p1, p2, _⟩ := CB.out wr S.out.2
      by_cases hlt : i < 512
      · have hlt' : (i : Int) < 512 := by omega
        have gN : decide ((N : Int) > 0) = true := decide_eq_true (by have := NB.out; have := HN.out.1; omega)
        have cu := CA.out wr S.out.2 i hlt
        have WR : Hid (wrap64 ((b : Int) * 512) = ((b * 512 : Nat) : Int) ∧ wrap64 (((b * 512 : Nat) : Int) + (i : Int)) = ((b * 512 + i : Nat) : Int) ∧ ((b * 512 + i : Nat) : Int) < (N : Int)) := Lib.hid (by
          have := NB.out; have := HN.out.2; have := HB.out
          refine ⟨by unfold wrap64; omega, by unfold wrap64; omega, by omega⟩)
        obtain ⟨⟨u, hc1⟩, hc2, hS⟩ := own_set S.out.1 i ((raw s.base b).getD i 0) (by rw [length_splice _ _ _ (by rw [List.length_take, RL.out, List.length_replicate]; omega), List.length_replicate]; exact hlt)
        have e2 := splice_moreA (List.replicate 512 0) (raw s.base b) 0 i (by rw [RL.out]; exact hlt) (by rw [RL.out, List.length_replicate]; omega)
        rw [Nat.zero_add] at e2
        rw [e2] at hS
        obtain ⟨z, hz⟩ : ∃ z, z = c8 ((raw s.base b).getD i 0) := ⟨_, rfl⟩
        rw [← hz] at cu hS
        obtain ⟨k1, hk1⟩ : ∃ k1, k1 = b * 512 := ⟨_, rfl⟩
        obtain ⟨k2, hk2⟩ : ∃ k2, k2 = b * 512 + i := ⟨_, rfl⟩
        have SS := Lib.hid hS
        have w0 := WR.out
        rw [← hk2] at w0 cu
        rw [← hk1] at w0
        obtain ⟨wr1, wr2, wr3⟩ := w0
        clear hS hz e2 hk1 hk2
        go_wp2_with fail
        go_roundg (512 - (i + 1))
        case measure => have := G.out; omega
        case rel => exact ⟨i + 1, by omega, rfl, by go_num, Lib.hid ⟨SS.out, S.out.2.setCell (p := ⟨g, i, none⟩) (by show _ ≤ g; rw [GG.out]; exact Nat.le_refl _) _⟩⟩
      · have e512 : i = 512 := by omega
        have O2 : Hid (Own w.heap.size wr (.slice (some ⟨g, 0, none⟩) 512 512) (raw s.base b)) := Lib.hid (by
          have := S.out.1
          rw [List.take_of_length_le (by rw [RL.out]; omega), splice_all _ _ (by rw [RL.out, List.length_replicate])] at this
          exact this)
        subst e512
        go_wp2_with fail
        refine (PL.out _ _ S.out.2 O2.out RL.out).mono ?_
        rintro e w' ⟨rfl, ho, hb'⟩
        rw [← GG.out] at ho hb'
        have P := Lib.hid (And.intro ho hb')
        clear ho hb'
        go_wp2_with fail
        go_ret
        exact ⟨rfl, by rw [F0.out]; exact P.out.1, P.out.2⟩
end Rf
end Go.Proofs.Ytbdlebengmbooaa
