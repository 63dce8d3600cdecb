/-
  The document's SumOf.
-/
import Derived.Test.YthjekiddjldehaaArA
import Derived.Test.YthjekiddjldehaaArB
namespace Go.Proofs.Ythjekiddjldehaa
open Go.RowKit Go.Maps
theorem upd_app (a b : List (BitVec 8)) : Sm.upd (Sm.upd 0#32 a) b = Sm.upd 0#32 (a ++ b) := by
  unfold Sm.upd
  rw [BitVec.not_not, Sm.over_app]
set_option maxHeartbeats 1000000 in
theorem sumOf_any (gb : Nat) (l : List UInt8) (w : World) (hv : Bytes w (.slice (some ⟨gb, 0, none⟩) 512 512) l) (hl : l.length = 512) :
    Calls Try.prog 54 #[.slice (some ⟨gb, 0, none⟩) 512 512] w fun e w' => e = .returned (.int .u32 (crc (l.take 500 ++ l.drop 504) : Int)) ∧ w' = w := by
  have hv' : Bytes w (.slice (some ⟨gb, 0, none⟩) l.length 512) l := by rw [hl]; exact hv
  have h1 : Bytes w (.slice (some ⟨gb, 0, none⟩) 500 512) (l.take 500) := hv'.take 500 (by omega)
  have h2 : Bytes w (.slice (some ⟨gb, 504, none⟩) 8 8) (l.drop 504) := by
    have := hv'.drop 504 (by omega)
    rw [hl] at this
    simpa [add_plain] using this
  have S1 := Lib.hid (Sm.rsum_any _ _ w (sm_bytes h1))
  have S2 := Lib.hid (Sm.rupdate_any (Sm.upd 0#32 ((l.take 500).map (·.toBitVec))) _ _ w (sm_bytes h2))
  have E : Hid (Sm.u (Sm.upd (Sm.upd 0#32 ((l.take 500).map (·.toBitVec))) ((l.drop 504).map (·.toBitVec))) = (crc (l.take 500 ++ l.drop 504) : Int)) := Lib.hid (by
    rw [upd_app, ← List.map_append]; rfl)
  obtain ⟨u1, hu1⟩ : ∃ u1, u1 = Sm.u (Sm.upd 0#32 ((l.take 500).map (·.toBitVec))) := ⟨_, rfl⟩
  rw [← hu1] at S1 S2
  rw [E.out] at S2
  clear hv hv' h1 h2 hu1 E
  go_enter Try.func54, Try.ntmps54
  go_wp2_with fail
  refine S1.out.mono ?_
  rintro _ w1 ⟨rfl, e1⟩
  obtain rfl := e1.symm
  go_wp2_with fail
  refine S2.out.mono ?_
  rintro _ w1 ⟨rfl, e1⟩
  obtain rfl := e1.symm
  go_wp2_with fail
  go_ret
  exact ⟨rfl, rfl⟩
end Go.Proofs.Ythjekiddjldehaa
