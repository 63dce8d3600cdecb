/-
  A block there and back; the numbers of the law fixed.
-/
import Derived.Test.YtfljbipnjfciaabWaT
namespace Go.Proofs.Ytfljbipnjfciaab
open Go.RowKit Go.Maps
theorem leN_zero : ∀ k, leN (List.replicate k 0) = 0
  | 0 => rfl
  | k + 1 => by rw [List.replicate_succ, leN, leN_zero k]; rfl
theorem sub_zero' (m a n : Nat) : sub (List.replicate m 0) a n = List.replicate (min n (m - a)) 0 := by
  unfold sub
  rw [List.drop_replicate, List.take_replicate]
theorem unR_zero : unR (List.replicate 512 0) = (zeroG, [], 2) := by
  have e : unG (List.replicate 512 0) = zeroG := by
    unfold unG zeroG
    simp only [sub_zero', leN_zero]
    rfl
  unfold unR
  rw [e, if_neg (fun h => absurd h.1 (by decide))]
theorem sub_mid (A X C : List UInt8) (a n : Nat) (ha : A.length = a) (hn : X.length = n) : sub (A ++ (X ++ C)) a n = X := by
  unfold sub
  rw [List.drop_left' ha, List.take_left' hn]
theorem wrap_nat (n : Nat) (h : n ≤ 9223372036854775807) : IntKind.i64.wrap (n : Int) = (n : Int) := wrap_in (by omega) (by omega)
theorem un_lay (g : Grp) (hv : Val g) (p : List UInt8) (hp : (p.length : Int) = shG g) : unR (layB g p) = (g, p, 0) := by
  obtain ⟨e, s, i, t, y, rfl⟩ := hv.nat
  have h1 := hv.e2; have h2 := hv.s2; have h3 := hv.i2; have h4 := hv.t2; have h5 := hv.b2
  have hsh := hv.share
  simp only at h1 h2 h3 h4 h5
  have hp2 : p.length ≤ 464 := by omega
  obtain ⟨C, hC⟩ : ∃ C, C = leB 4 (crc (hdB (grp e s i t y) ++ bdB (grp e s i t y) p)) := ⟨_, rfl⟩
  have hCl : C.length = 4 := by rw [hC, leB_length]
  have hL : layB (grp e s i t y) p = [183, 1] ++ (leB 2 i ++ (leB 2 t ++ ([0, 0] ++ (leB 8 e ++ (leB 8 s ++ (leB 4 y ++ (C ++ (p ++ (List.replicate (464 - p.length) 0 ++ (leB 8 e ++ leB 8 s)))))))))) := by
    unfold layB
    rw [← hC]
    unfold hdB bdB
    simp only [List.append_assoc, Int.toNat_natCast]
  have eG : unG (layB (grp e s i t y) p) = grp e s i t y := by
    rw [hL]
    have a1 : sub ([183, 1] ++ (leB 2 i ++ (leB 2 t ++ ([0, 0] ++ (leB 8 e ++ (leB 8 s ++ (leB 4 y ++ (C ++ (p ++ (List.replicate (464 - p.length) 0 ++ (leB 8 e ++ leB 8 s))))))))))) 2 2 = leB 2 i := sub_mid _ _ _ 2 2 rfl (leB_length _ _)
    have a2 : sub ([183, 1] ++ (leB 2 i ++ (leB 2 t ++ ([0, 0] ++ (leB 8 e ++ (leB 8 s ++ (leB 4 y ++ (C ++ (p ++ (List.replicate (464 - p.length) 0 ++ (leB 8 e ++ leB 8 s))))))))))) 4 2 = leB 2 t := by
      have := sub_mid ([183, 1] ++ leB 2 i) (leB 2 t) ([0, 0] ++ (leB 8 e ++ (leB 8 s ++ (leB 4 y ++ (C ++ (p ++ (List.replicate (464 - p.length) 0 ++ (leB 8 e ++ leB 8 s)))))))) 4 2 (by simp [leB_length]) (leB_length _ _)
      simpa only [List.append_assoc] using this
    have a3 : sub ([183, 1] ++ (leB 2 i ++ (leB 2 t ++ ([0, 0] ++ (leB 8 e ++ (leB 8 s ++ (leB 4 y ++ (C ++ (p ++ (List.replicate (464 - p.length) 0 ++ (leB 8 e ++ leB 8 s))))))))))) 8 8 = leB 8 e := by
      have := sub_mid ([183, 1] ++ (leB 2 i ++ (leB 2 t ++ [0, 0]))) (leB 8 e) (leB 8 s ++ (leB 4 y ++ (C ++ (p ++ (List.replicate (464 - p.length) 0 ++ (leB 8 e ++ leB 8 s)))))) 8 8 (by simp [leB_length]) (leB_length _ _)
      simpa only [List.append_assoc] using this
    have a4 : sub ([183, 1] ++ (leB 2 i ++ (leB 2 t ++ ([0, 0] ++ (leB 8 e ++ (leB 8 s ++ (leB 4 y ++ (C ++ (p ++ (List.replicate (464 - p.length) 0 ++ (leB 8 e ++ leB 8 s))))))))))) 16 8 = leB 8 s := by
      have := sub_mid ([183, 1] ++ (leB 2 i ++ (leB 2 t ++ ([0, 0] ++ leB 8 e)))) (leB 8 s) (leB 4 y ++ (C ++ (p ++ (List.replicate (464 - p.length) 0 ++ (leB 8 e ++ leB 8 s))))) 16 8 (by simp [leB_length]) (leB_length _ _)
      simpa only [List.append_assoc] using this
    have a5 : sub ([183, 1] ++ (leB 2 i ++ (leB 2 t ++ ([0, 0] ++ (leB 8 e ++ (leB 8 s ++ (leB 4 y ++ (C ++ (p ++ (List.replicate (464 - p.length) 0 ++ (leB 8 e ++ leB 8 s))))))))))) 24 4 = leB 4 y := by
      have := sub_mid ([183, 1] ++ (leB 2 i ++ (leB 2 t ++ ([0, 0] ++ (leB 8 e ++ leB 8 s))))) (leB 4 y) (C ++ (p ++ (List.replicate (464 - p.length) 0 ++ (leB 8 e ++ leB 8 s)))) 24 4 (by simp [leB_length]) (leB_length _ _)
      simpa only [List.append_assoc] using this
    unfold unG
    rw [a1, a2, a3, a4, a5, leN_leB 2 i (by omega), leN_leB 2 t (by omega), leN_leB 8 e (by omega), leN_leB 8 s (by omega), leN_leB 4 y (by omega), wrap_nat i (by omega), wrap_nat t (by omega), wrap_nat e (by omega), wrap_nat s (by omega), wrap_nat y (by omega)]
  have eP : unP (layB (grp e s i t y) p) = p := by
    unfold unP
    rw [eG, ← hp, Int.toNat_natCast, hL]
    have := sub_mid ([183, 1] ++ (leB 2 i ++ (leB 2 t ++ ([0, 0] ++ (leB 8 e ++ (leB 8 s ++ (leB 4 y ++ C))))))) p (List.replicate (464 - p.length) 0 ++ (leB 8 e ++ leB 8 s)) 32 p.length (by simp [leB_length, hCl]) rfl
    simpa only [List.append_assoc] using this
  unfold unR
  rw [eG, eP, if_pos ⟨(val_iff _).2 hv, rfl⟩]
/-- The records "abc" as a payload. -/
theorem spl_abc : spl [3, 0, 0, 0, 97, 98, 99] = ([⟨#[97, 98, 99]⟩], true) := by
  first | rfl | decide | (simp [spl, splF, leN, txt]; done)
end Go.Proofs.Ytfljbipnjfciaab
