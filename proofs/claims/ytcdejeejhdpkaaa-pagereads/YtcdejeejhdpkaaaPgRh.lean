/-
  The document's SumOf.
-/
import Derived.Test.YtcdejeejhdpkaaaPgRg
import Derived.Test.YtcdejeejhdpkaaaPgRs
import Derived.Test.YtcdejeejhdpkaaaPgX
namespace Go.Proofs.Ytcdejeejhdpkaaa
open Go.RowKit Go.Maps
theorem upd_app (a b : List (BitVec 8)) : Sm.upd (Sm.upd 0#32 a) b = Sm.upd 0#32 (a ++ b) := by
  unfold Sm.upd
  rw [BitVec.not_not, Sm.over_app]
set_option maxHeartbeats 1000000 in
theorem dsum_any (gb c : Nat) (l : List UInt8) (w : World) (hv : Bytes w (.slice (some ⟨gb, 0, none⟩) 512 c) l) (hl : l.length = 512) :
    Calls Try.prog 49 #[.slice (some ⟨gb, 0, none⟩) 512 c] w fun e w' => e = .returned (.int .u32 (crc (l.take 4 ++ l.drop 8) : Int)) ∧ w' = w := by
  have hc : 512 ≤ c ∧ c ≤ 9223372036854775807 := by
    obtain ⟨a2, c2, e, q1, q2, _⟩ := hv
    simp only [Value.slice.injEq] at e
    unfold maxLen at q2
    rw [e.2.2]
    omega
  obtain ⟨hc1, hc2⟩ := hc
  have hv' : Bytes w (.slice (some ⟨gb, 0, none⟩) l.length c) l := by rw [hl]; exact hv
  have h1 : Bytes w (.slice (some ⟨gb, 0, none⟩) 4 c) (l.take 4) := hv'.take 4 (by omega)
  have h2 : Bytes w (.slice (some ⟨gb, 8, none⟩) 504 (c - 8)) (l.drop 8) := by
    have := hv'.drop 8 (by omega)
    rw [hl] at this
    simpa [add_plain] using this
  have S1 := Lib.hid (Sm.rsum_any _ _ w (sm_bytes h1))
  have S2 := Lib.hid (Sm.rupdate_any (Sm.upd 0#32 ((l.take 4).map (·.toBitVec))) _ _ w (sm_bytes h2))
  have E : Hid (Sm.u (Sm.upd (Sm.upd 0#32 ((l.take 4).map (·.toBitVec))) ((l.drop 8).map (·.toBitVec))) = (crc (l.take 4 ++ l.drop 8) : Int)) := Lib.hid (by
    rw [upd_app, ← List.map_append]; rfl)
  obtain ⟨u1, hu1⟩ : ∃ u1, u1 = Sm.u (Sm.upd 0#32 ((l.take 4).map (·.toBitVec))) := ⟨_, rfl⟩
  rw [← hu1] at S1 S2
  rw [E.out] at S2
  have hcc : (8 : Int) ≤ (c : Int) := by omega
  have hc4 : (4 : Int) ≤ (c : Int) := by omega
  have hne : ¬ c = 8 := by omega
  clear hv hv' h1 h2 hu1 E
  go_enter Try.func49, Try.ntmps49
  go_wp2_with fail
  refine S1.out.mono ?_
  rintro _ w1 ⟨rfl, e1⟩
  obtain rfl := e1.symm
  go_wp2_with fail
  refine S2.out.mono ?_
  rintro _ w1 ⟨rfl, e1⟩
  obtain rfl := e1.symm
  go_wp2_with fail
  go_ret
  exact ⟨rfl, rfl⟩
end Go.Proofs.Ytcdejeejhdpkaaa
