/-
  The law fixed.
-/
import Derived.Test.YtfljbipnjfciaabWaU
namespace Go.Proofs.Ytfljbipnjfciaab
open Go.RowKit Go.Maps
def fx0 : LS := ls0 2 8 1 1 0
def fx1 : LS := appS fx0 [97, 98, 99]
def fxB : List UInt8 := layB (gAt fx1 0) (chk fx1 0)
def fxD (z : List UInt8) : DS := ⟨64, lay z 2 fxB, [], false, 0, false, up 0, up 0, up 0, 1⟩
theorem fx1_fit : LFit fx1 := by
  refine ⟨by decide, by decide, by decide, by decide, by decide, by decide, by decide, by decide, by decide, by decide, by decide, by decide, by decide, by decide⟩
theorem fx1_T : fx1.T = 1 := by decide
theorem fx_chk : chk fx1 0 = [3, 0, 0, 0, 97, 98, 99] := by decide
theorem fx_len : fxB.length = 512 := layB_length _ _ (by rw [fx_chk]; decide)
theorem fx_un : unR fxB = (gAt fx1 0, chk fx1 0, 0) := un_lay _ (gAt_val fx1_fit 0 (by rw [fx1_T]; decide)) _ (gAt_share 0 (by rw [fx1_T]; decide)).symm
theorem raw_rep (m k : Nat) (h : 512 * k + 512 ≤ m) : raw (List.replicate m 0) k = List.replicate 512 0 := by
  unfold raw
  rw [List.drop_replicate, List.take_replicate]
  congr 1
  omega
theorem fx_r0 (k : Nat) (hk : k < 64) : rdB (newD 64 (List.replicate 32768 0)) k = List.replicate 512 0 := by
  show raw (List.replicate 32768 0) k = _
  exact raw_rep _ _ (by omega)
theorem fx_r2 (z : List UInt8) (hz : z.length = 32768) : rdB (fxD z) 2 = fxB := by
  show raw (lay z 2 fxB) 2 = fxB
  rw [raw_lay_same _ _ _ (by rw [fx_len]; omega) (by omega), splice_all _ _ (by rw [fx_len, raw_length _ _ (by omega)])]
theorem fx_r3 : rdB (fxD (List.replicate 32768 0)) 3 = List.replicate 512 0 := by
  show raw (lay (List.replicate 32768 0) 2 fxB) 3 = _
  rw [raw_lay_other _ _ _ _ (by rw [fx_len]; omega) (by rw [List.length_replicate]; omega) (by omega)]
  exact raw_rep _ _ (by omega)
theorem fx_sync (z : List UInt8) : sync fx1 (rd1 (newD 64 z)) = (fxD z, fx1.next, 0) := by
  have hw : wrE (rd1 (newD 64 z)) (fx1.at 0 : Int) fxB = (⟨64, z, [(2, fxB)], false, 0, false, up 0, up 0, 0, 1⟩, 0) := by
    unfold wrE
    rw [if_neg (show ¬ hasB (rd1 (newD 64 z)) (fx1.at 0 : Int) = false by rw [show hasB (rd1 (newD 64 z)) (fx1.at 0 : Int) = true from rfl]; simp), if_neg (by rw [fx_len]; exact fun h => h rfl)]
    have ha : actD (rd1 (newD 64 z)) = (rd1 (newD 64 z), 0) := rfl
    rw [ha, if_neg (fun h => h rfl)]
    rfl
  have hf : flD ⟨64, z, [(2, fxB)], false, 0, false, up 0, up 0, 0, 1⟩ = (fxD z, 0) := by
    unfold flD
    have ha : actD ⟨64, z, [(2, fxB)], false, 0, false, up 0, up 0, 0, 1⟩ = (⟨64, z, [(2, fxB)], false, 0, false, up 0, up 0, 0, 1⟩, 0) := rfl
    rw [ha, if_neg (fun h => h rfl)]
    have e : sets (fun _ => (1, 0)) 0 [((2 : Nat), fxB)] z = lay z 2 fxB := by
      show lay z 2 (fxB.take 512) = _
      rw [List.take_of_length_le (by rw [fx_len]; omega)]
    show ((⟨64, sets (fun _ => (1, 0)) 0 [((2 : Nat), fxB)] z, [], false, 0, false, up 0, up 0, up 0, 1⟩ : DS), (0 : Int)) = _
    rw [e]
    rfl
  have hb : brD fx1 fx1.T (rd1 (newD 64 z)) = (fxD z, 0) := by
    rw [fx1_T]
    show (if (wrE (rd1 (newD 64 z)) (fx1.at (fx1.T - (0 + 1)) : Int) (layB (gAt fx1 (fx1.T - (0 + 1))) (chk fx1 (fx1.T - (0 + 1))))).2 ≠ 0 then _ else brD fx1 0 _) = _
    rw [fx1_T]
    have e : wrE (rd1 (newD 64 z)) (fx1.at (1 - (0 + 1)) : Int) (layB (gAt fx1 (1 - (0 + 1))) (chk fx1 (1 - (0 + 1)))) = (⟨64, z, [(2, fxB)], false, 0, false, up 0, up 0, 0, 1⟩, 0) := hw
    rw [e, if_neg (fun h => h rfl)]
    exact hf
  unfold sync
  rw [if_neg (by decide), hb, if_neg (fun h => h rfl)]
theorem fx_app : appE fx0 3 = 0 := by decide
theorem fx_room : roomL fx0 = 3708 := by decide
theorem fx_next : fx1.next.es = 2 ∧ fx1.next.ea = 1 := by decide
end Go.Proofs.Ytfljbipnjfciaab
