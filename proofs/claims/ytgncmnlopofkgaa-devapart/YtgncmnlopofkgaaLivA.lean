/-
  lives.
-/
import Derived.Test.YtgncmnlopofkgaaHlA
namespace Go.Proofs.Ytgncmnlopofkgaa
open Go.RowKit Go.Maps
def liveS : DS := ⟨64, lay (List.replicate 32768 0) 63 (List.replicate 512 5), [], false, 0, false, 0, 1, 1, 1⟩
theorem up_zero : up 0 = 1 := by unfold up wrap64; omega
theorem live_write (z : List UInt8) (p : List UInt8) (hp : p.length = 512) : wrE (newD 64 z) 63 p = (⟨64, z, [(63, p)], false, 0, false, 0, 1, 0, 1⟩, 0) := by
  unfold wrE
  rw [if_neg (show ¬ hasB (newD 64 z) 63 = false by unfold hasB newD; simp), if_neg (by rw [hp]; exact fun h => h rfl)]
  have ha : actD (newD 64 z) = (newD 64 z, 0) := rfl
  rw [ha, if_neg (fun h => h rfl)]
  show ((⟨64, z, [(63, p)], false, 0, false, 0, up 0, 0, 1⟩ : DS), (0 : Int)) = _
  rw [up_zero]
theorem live_flush (z p : List UInt8) (hp : p.length = 512) : flD ⟨64, z, [(63, p)], false, 0, false, 0, 1, 0, 1⟩ = (⟨64, lay z 63 p, [], false, 0, false, 0, 1, 1, 1⟩, 0) := by
  have ha : actD ⟨64, z, [(63, p)], false, 0, false, 0, 1, 0, 1⟩ = (⟨64, z, [(63, p)], false, 0, false, 0, 1, 0, 1⟩, 0) := rfl
  unfold flD
  rw [ha, if_neg (fun h => h rfl)]
  have e : sets (fun _ => (1, 0)) 0 [((63 : Nat), p)] z = lay z 63 p := by
    show lay z 63 (p.take 512) = _
    rw [List.take_of_length_le (by omega)]
  show ((⟨64, sets (fun _ => (1, 0)) 0 [((63 : Nat), p)] z, [], false, 0, false, 0, 1, up 0, 1⟩ : DS), (0 : Int)) = _
  rw [e, up_zero]
theorem live_raw (z p : List UInt8) (hz : z.length = 32768) (hp : p.length = 512) : rawD ⟨64, lay z 63 p, [], false, 0, false, 0, 1, 1, 1⟩ 63 = (p, 0) := by
  unfold rawD
  rw [if_neg (show ¬ hasB _ 63 = false by unfold hasB; simp)]
  show (raw (lay z 63 p) 63, (0 : Int)) = _
  rw [raw_lay_same _ _ _ (by omega) (by omega), splice_all _ _ (by rw [hp, raw_length _ _ (by omega)])]
set_option maxHeartbeats 2000000 in
theorem lives_any (w : World) : Calls Try.prog 5 #[] w fun e w' => ∃ cv, e = .returned (.pointer (some ⟨w.heap.size + 2, 0, none⟩)) ∧ Dv w.heap.size w' (w.heap.size + 2) w.heap.size (w.heap.size + 1) cv liveS ∧ Below w.heap.size w w' := by
  have NW := Lib.hid (new_ok 64 w (by decide) (by decide))
  obtain ⟨z, hz⟩ : ∃ z, z = List.replicate 32768 (0 : UInt8) := ⟨_, rfl⟩
  obtain ⟨p, hp⟩ : ∃ p, p = List.replicate 512 (5 : UInt8) := ⟨_, rfl⟩
  have ZL : Hid (z.length = 32768) := Lib.hid (by rw [hz, List.length_replicate])
  have PL : Hid (p.length = 512) := Lib.hid (by rw [hp, List.length_replicate])
  have LS : Hid (liveS = ⟨64, lay z 63 p, [], false, 0, false, 0, 1, 1, 1⟩) := Lib.hid (by rw [hz, hp]; rfl)
  have FU : Hid (∀ w, Calls Try.prog 6 #[.int .u8 5] w fun e w' => e = .returned (.slice (some ⟨w.heap.size, 0, none⟩) 512 512) ∧ Own w.heap.size w' (.slice (some ⟨w.heap.size, 0, none⟩) 512 512) p ∧ Below w.heap.size w w') := Lib.hid (fun w => by rw [hp]; exact full_any 5 w)
  have e0 : List.replicate (512 * 64) (0 : UInt8) = z := by rw [hz]
  rw [e0] at NW
  obtain ⟨b, hb⟩ : ∃ b, b = w.heap.size := ⟨_, rfl⟩
  rw [← hb] at NW ⊢
  have BB := Lib.hid hb
  clear hz hp e0 hb
  go_enter Try.func5, Try.ntmps5
  go_wp2_with fail
  refine NW.out.mono ?_
  rintro e w1 ⟨rfl, hb1, hd1⟩
  have D1 := Lib.hid (And.intro hb1 hd1)
  clear hb1 hd1 NW
  go_wp2_with fail
  refine (FU.out w1).mono ?_
  rintro e w2 ⟨rfl, ho2, hb2⟩
  have O2 := Lib.hid (And.intro ho2 hb2)
  clear ho2 hb2
  have D2 := Lib.hid (D1.out.2.below O2.out.2)
  have WR := Lib.hid (write_any D2.out 63 (.slice (some ⟨w1.heap.size, 0, none⟩) 512 512) p (fun w' hk => (O2.out.1.kept hk (fun k hk2 e => by
    have h1 := O2.out.1.lt k hk2
    have h2 := (D1.out.2.foot_lt (b + 2) (.inl rfl)).2
    omega)).bytes) (by show (0 : Nat) < _; omega))
  rw [live_write z p PL.out] at WR
  go_wp2_with fail
  refine WR.out.mono ?_
  rintro e w3 ⟨cv3, rfl, hd3, hk3, ha3⟩
  have D3 := Lib.hid (And.intro hd3 hk3)
  have FL := Lib.hid (flush_any hd3 (by show (1 : Nat) < _; omega))
  rw [live_flush z p PL.out] at FL
  clear hd3 hk3 ha3 WR
  go_wp2_with fail
  refine FL.out.mono ?_
  rintro e w4 ⟨cv4, rfl, hd4, hk4, _⟩
  have D4 := Lib.hid (And.intro hd4 hk4)
  have RW := Lib.hid (raw_any hd4 63)
  rw [live_raw z p ZL.out PL.out] at RW
  clear hd4 hk4 FL
  go_wp2_with fail
  refine RW.out.mono ?_
  rintro e w5 ⟨v5, rfl, ho5, hb5⟩
  have O5 := Lib.hid (And.intro ho5 hb5)
  clear ho5 hb5 RW
  go_wp2_with fail
  refine (FU.out w5).mono ?_
  rintro e w6 ⟨rfl, ho6, hb6⟩
  have O6 := Lib.hid (And.intro ho6 hb6)
  have SM := Lib.hid (same_any v5 (.slice (some ⟨w5.heap.size, 0, none⟩) 512 512) p p w6 (O5.out.1.below hb6).bytes ho6.bytes)
  rw [decide_eq_true rfl] at SM
  clear ho6 hb6 FU
  go_wp2_with fail
  refine SM.out.mono ?_
  rintro e w7 ⟨rfl, rfl⟩
  clear SM
  go_wp2_with fail
  go_ret
  rw [LS.out]
  refine ⟨cv4, rfl, (D4.out.1.below O5.out.2).below O6.out.2, ?_⟩
  have b0 : b ≤ w1.heap.size := by rw [BB.out]; exact D1.out.1.size
  have q2 : Below b w1 w2 := O2.out.2.mono b0
  have s2 : b ≤ w2.heap.size := Nat.le_trans b0 q2.size
  have q3 : Below b w2 w3 := D3.out.2.below s2 (fun x hx => (D2.out.foot_lt x hx).1)
  have s3 : b ≤ w3.heap.size := Nat.le_trans s2 q3.size
  have q4 : Below b w3 w4 := D4.out.2.below s3 (fun x hx => by omega)
  have s4 : b ≤ w4.heap.size := Nat.le_trans s3 q4.size
  have q5 : Below b w4 w5 := O5.out.2.mono s4
  have s5 : b ≤ w5.heap.size := Nat.le_trans s4 q5.size
  have q6 : Below b w5 w7 := O6.out.2.mono s5
  have q1 : Below b w w1 := D1.out.1
  exact ((((q1.trans q2).trans q3).trans q4).trans q5).trans q6
end Go.Proofs.Ytgncmnlopofkgaa
