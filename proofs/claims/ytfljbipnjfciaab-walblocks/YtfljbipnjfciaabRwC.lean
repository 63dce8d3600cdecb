/-
  The document's SumOf, Block.
-/
import Derived.Test.YtfljbipnjfciaabRwA
import Derived.Test.YtfljbipnjfciaabRwB
import Derived.Test.YtfljbipnjfciaabWaD
namespace Go.Proofs.Ytfljbipnjfciaab
open Go.RowKit Go.Maps
theorem upd_app (a b : List (BitVec 8)) : Sm.upd (Sm.upd 0#32 a) b = Sm.upd 0#32 (a ++ b) := by
  unfold Sm.upd
  rw [BitVec.not_not, Sm.over_app]
set_option maxHeartbeats 1000000 in
theorem sumOf_any (gb : Nat) (l : List UInt8) (w : World) (hv : Bytes w (.slice (some ⟨gb, 0, none⟩) 512 512) l) (hl : l.length = 512) :
    Calls Try.prog 34 #[.slice (some ⟨gb, 0, none⟩) 512 512] w fun e w' => e = .returned (.int .u32 (crc (l.take 28 ++ l.drop 32) : Int)) ∧ w' = w := by
  have hv' : Bytes w (.slice (some ⟨gb, 0, none⟩) l.length 512) l := by rw [hl]; exact hv
  have h1 : Bytes w (.slice (some ⟨gb, 0, none⟩) 28 512) (l.take 28) := hv'.take 28 (by omega)
  have h2 : Bytes w (.slice (some ⟨gb, 32, none⟩) 480 480) (l.drop 32) := by
    have := hv'.drop 32 (by omega)
    rw [hl] at this
    simpa [add_plain] using this
  have S1 := Lib.hid (Sm.rsum_any _ _ w (sm_bytes h1))
  have S2 := Lib.hid (Sm.rupdate_any (Sm.upd 0#32 ((l.take 28).map (·.toBitVec))) _ _ w (sm_bytes h2))
  have E : Hid (Sm.u (Sm.upd (Sm.upd 0#32 ((l.take 28).map (·.toBitVec))) ((l.drop 32).map (·.toBitVec))) = (crc (l.take 28 ++ l.drop 32) : Int)) := Lib.hid (by
    rw [upd_app, ← List.map_append]; rfl)
  obtain ⟨u1, hu1⟩ : ∃ u1, u1 = Sm.u (Sm.upd 0#32 ((l.take 28).map (·.toBitVec))) := ⟨_, rfl⟩
  rw [← hu1] at S1 S2
  rw [E.out] at S2
  clear hv hv' h1 h2 hu1 E
  go_enter Try.func34, Try.ntmps34
  go_wp2_with fail
  refine S1.out.mono ?_
  rintro _ w1 ⟨rfl, e1⟩
  obtain rfl := e1.symm
  go_wp2_with fail
  refine S2.out.mono ?_
  rintro _ w1 ⟨rfl, e1⟩
  obtain rfl := e1.symm
  go_wp2_with fail
  go_ret
  exact ⟨rfl, rfl⟩
def lw7 (g : Grp) (p : List UInt8) : List UInt8 := splice (splice (ly6 g p) 496 (leB 8 g.ep.toNat)) 504 (leB 8 g.st.toNat)
theorem lw7_eq (g : Grp) (p : List UInt8) (h : p.length ≤ 464) : lw7 g p = ly7 g p := by
  unfold lw7
  rw [ly7_eq g p h, ly6_eq g p h]
  have e16 : zs 16 = zs 8 ++ zs 8 := by rw [zs_app]
  rw [e16]
  have a1 : hdB g ++ (zs 4 ++ (p ++ (zs (464 - p.length) ++ (zs 8 ++ zs 8)))) = (hdB g ++ (zs 4 ++ (p ++ zs (464 - p.length)))) ++ (zs 8 ++ zs 8) := by simp only [List.append_assoc]
  have al : (hdB g ++ (zs 4 ++ (p ++ zs (464 - p.length)))).length = 496 := by simp [hdB_length]; omega
  rw [a1, spA _ _ _ 496 0 (by rw [al]), sp0 _ _ _ (by rw [leB_length, List.length_replicate])]
  rw [spA _ _ _ 504 8 (by rw [al]), spA _ _ _ 8 0 (by rw [leB_length])]
  have e0 : splice (zs 8) 0 (leB 8 g.st.toNat) = leB 8 g.st.toNat := by
    have := sp0 (zs 8) [] (leB 8 g.st.toNat) (by rw [leB_length, List.length_replicate])
    simpa using this
  rw [e0]
  unfold bdB
  simp only [List.append_assoc]
theorem lw8_eq (g : Grp) (p : List UInt8) (h : p.length ≤ 464) : splice (lw7 g p) 28 (leB 4 (crc ((lw7 g p).take 28 ++ (lw7 g p).drop 32))) = layB g p := by
  rw [lw7_eq g p h]; exact ly8_eq g p h
end Go.Proofs.Ytfljbipnjfciaab
