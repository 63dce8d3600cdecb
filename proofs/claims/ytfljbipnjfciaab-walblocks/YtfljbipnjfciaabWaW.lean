/-
  The law fixed, walked.
-/
import Derived.Test.YtfljbipnjfciaabWaV
namespace Go.Proofs.Ytfljbipnjfciaab
open Go.RowKit Go.Maps
theorem open_zero {B : Nat} {w : World} {d mb mp : Nat} {cv : Value} {ds : DS} (hd : Dv B w d mb mp cv ds) (hB : B ≤ w.heap.size) (fst n ep fs fa : Nat) (ho : OkO ds fst n ep fs fa) (hdn : ds.down = false) (hz : rdB ds (fst + fa) = List.replicate 512 0) :
    Calls Try.prog 22 #[.pointer (some ⟨d, 0, none⟩), .int .i64 (fst : Int), .int .i64 (n : Int), .agg #[.int .i64 (fs : Int), .int .i64 (fa : Int)], .int .i64 (ep : Int)] w fun e w' => ∃ l vr, e = .returned (.tuple #[.pointer (some ⟨l, 0, none⟩), vr, .int .i64 0]) ∧ w.heap.size ≤ l ∧ OwnS w.heap.size w' vr [] ∧ Wl B w' d mb mp cv (rd1 ds) l (.slice none 0 0) (ls0 fst n ep fs fa) ∧ Kept (fun k => k = d) w w' := by
  refine open_with hd hB fst n ep fs fa ho [] (rd1 ds) _ (fun W l hW => ?_)
  have e : (ls0 fst n ep fs fa).at 0 = fst + fa := by
    show fst + (fa + 0) % n = fst + fa
    rw [Nat.add_zero, Nat.mod_eq_of_lt ho.a1]
  refine (scan_none hW hdn ho.f1 (by show 0 < n - (fs - fs); have := ho.n1; omega) (by rw [e, hz]; exact unR_zero)).mono ?_
  rintro r w' ⟨rfl, h1, h2⟩
  exact ⟨_, rfl, World.ownsRow_nil _ _ _ _, h1, h2.mono (fun _ _ q => .inl q)⟩
theorem end_eq (x y x' y' : Int) (w : World) (h : x = x') (h' : y = y') : (binOp BinOp.eql 49 (.agg #[.int .i64 x, .int .i64 y]) (.agg #[.int .i64 x', .int .i64 y'])).run Try.prog w = .ok (.bool true) w := by
  subst h h'
  first | (go_simp; done) | (simp [binOp]; done)
set_option maxRecDepth 100000 in
set_option maxHeartbeats 4000000 in
theorem fixed_any (w : World) : Calls Try.prog 5 #[] w fun e w' => e = .returned (.bool true) ∧ Below w.heap.size w w' := by
  have NW := Lib.hid (new_ok 64 w (by decide) (by decide))
  obtain ⟨z, hz⟩ : ∃ z, z = List.replicate 32768 (0 : UInt8) := ⟨_, rfl⟩
  have ZL : Hid (z.length = 32768) := Lib.hid (by rw [hz, List.length_replicate])
  have R2 : Hid (rdB (newD 64 z) 2 = List.replicate 512 0) := Lib.hid (by rw [hz]; exact fx_r0 2 (by decide))
  have R3 : Hid (rdB (fxD z) 3 = List.replicate 512 0) := Lib.hid (by rw [hz]; exact fx_r3)
  have e0 : List.replicate (512 * 64) (0 : UInt8) = z := by rw [hz]
  rw [e0] at NW
  obtain ⟨b, hb⟩ : ∃ b, b = w.heap.size := ⟨_, rfl⟩
  rw [← hb] at NW ⊢
  have BB := Lib.hid hb
  clear hz e0 hb
  go_enter Try.func5, Try.ntmps5
  go_wp2_with fail
  refine NW.out.mono ?_
  rintro e w1 ⟨rfl, hb1, hd1⟩
  have D1 := Lib.hid (And.intro hb1 hd1)
  have s1 : Hid (b ≤ w1.heap.size) := Lib.hid (by rw [BB.out]; exact hb1.size)
  have O1 := Lib.hid (open_zero hd1 s1.out 2 8 1 1 0 ⟨by decide, by decide, (show 2 + 8 ≤ 64 by decide), by decide, by decide, by decide, by decide, by decide⟩ rfl R2.out)
  clear hb1 hd1 NW
  go_wp2_with fail
  refine O1.out.mono ?_
  rintro e w2 ⟨l, vr, rfl, hl2, ho2, hw2, hk2⟩
  obtain ⟨a2, c2, e2, _, hc2⟩ : ∃ a c, vr = .slice a 0 c ∧ 0 ≤ c ∧ c ≤ maxLen := ho2.strs.len
  subst e2
  unfold maxLen at hc2
  have hw2' : Wl b w2 (b + 2) b (b + 1) (.slice none 0 0) (rd1 (newD 64 z)) l (.slice none 0 0) fx0 := hw2
  have F2 := Lib.hid (And.intro hw2' (And.intro hk2 hl2))
  have RM := Lib.hid (room_any hw2'.lg)
  rw [fx_room] at RM
  clear ho2 hw2 hk2 hl2 O1 hw2'
  go_wp2_with fail
  refine RM.out.mono ?_
  rintro e w3 ⟨rfl, hb3⟩
  have W3 := Lib.hid (F2.out.1.below hb3)
  have B3 := Lib.hid hb3
  have AP := Lib.hid (append_ok W3.out.lg ⟨#[97, 98, 99]⟩ fx_app)
  clear hb3 RM
  go_wp2_with fail
  refine AP.out.mono ?_
  rintro e w4 ⟨pv4, rfl, hw4, hk4, ha4⟩
  have hk4' : Kept (fun k => k = l) w3 w4 := hk4.mono (fun x _ q => by rcases q with q | q; exact q; simp [Value.ownBlock] at q)
  have W4 : Hid (Wl b w4 (b + 2) b (b + 1) (.slice none 0 0) (rd1 (newD 64 z)) l pv4 fx1) := Lib.hid ⟨W3.out.dv.kept hk4' (fun k hk e => W3.out.l_ne (e ▸ hk)), hw4⟩
  have K4 := Lib.hid hk4'
  have SY := Lib.hid (sync_any W4.out (show 0 + 600 < 4611686018427387904 by decide) (show 0 + 600 < 137438953472 by decide))
  rw [fx_sync z] at SY
  clear hw4 hk4 ha4 AP hk4'
  go_wp2_with fail
  refine SY.out.mono ?_
  rintro e w5 ⟨cv5, pv5, rfl, hw5, hk5, _, _⟩
  have F5 := Lib.hid (And.intro hw5 hk5)
  have s5 : Hid (b ≤ w5.heap.size) := Lib.hid (by have q1 := B3.out.size; have q2 := K4.out.size; have q3 := hk5.size; have q4 := F2.out.2.1.size; have := s1.out; omega)
  have O6 := Lib.hid (open_with hw5.dv s5.out 2 8 2 1 0 ⟨by decide, by decide, (show 2 + 8 ≤ 64 by decide), by decide, by decide, by decide, by decide, by decide⟩ [⟨#[97, 98, 99]⟩] (rd1 (rd1 (fxD z))) (ls0 2 8 2 1 0).step (fun W m hW => by
    refine scan_one hW rfl (show 2 + 8 ≤ 64 by decide) rfl rfl (by decide) (gAt fx1 0) 1 rfl (chk fx1 0) (by rw [fx_chk]; decide) ⟨rfl, rfl, by decide, by decide, by rfl, by decide⟩ ?_ _ (by rw [fx_chk]; exact spl_abc) (by decide) (by decide) ?_
    · rw [show (ls0 2 8 2 1 0).at 0 = 2 from rfl, fx_r2 z ZL.out]
      exact fx_un
    · rw [show (ls0 2 8 2 1 0).step.at 0 = 3 from rfl, R3.out]
      exact unR_zero))
  clear hw5 hk5 SY
  go_wp2_with fail
  refine O6.out.mono ?_
  rintro e w6 ⟨m, vr6, rfl, hl6, ho6, hw6, hk6⟩
  have F6 := Lib.hid (And.intro hw6 (And.intro hk6 ho6))
  have L6 : Hid (Lg b w6 l (b + 2) pv5 fx1.next) := Lib.hid (F5.out.1.lg.kept hk6 (fun e => F5.out.1.l_ne (.inl e)) (fun k hk e => F5.out.1.dv.bytes_ne F5.out.1.lg.pay k hk (.inl e)))
  clear hl6 ho6 hw6 hk6 O6
  obtain ⟨X, hX⟩ : ∃ X, X = w6.alloc (.cells #[.string ⟨#[97, 98, 99]⟩] 9) := ⟨_, rfl⟩
  have BX : Hid (Below w6.heap.size w6 X) := Lib.hid (by rw [hX]; exact (Below.refl _ _).alloc (Nat.le_refl _) _)
  have SX : Hid (Strs X (.slice (some ⟨w6.heap.size, 0, none⟩) 1 1) [⟨#[97, 98, 99]⟩]) := Lib.hid (by
    rw [hX]
    refine ⟨_, 1, rfl, by decide, by decide, fun h => by simp at h, fun k hk => ⟨w6.heap.size, 0, rfl, ?_⟩⟩
    have hk0 : k = 0 := by simp at hk; exact hk
    subst hk0
    rw [World.cell?_alloc_new]
    rfl)
  have ST := Lib.hid (sameTexts_yes vr6 (.slice (some ⟨w6.heap.size, 0, none⟩) 1 1) [⟨#[97, 98, 99]⟩] X (F6.out.2.2.below BX.out).strs SX.out)
  have hX' := hX.symm
  clear hX
  go_wp2_with fail
  refine ST.out.mono ?_
  rintro e w7 ⟨rfl, hb7⟩
  have b67 : Hid (Below w6.heap.size w6 w7) := Lib.hid (BX.out.trans (hb7.mono BX.out.size))
  have E7 := Lib.hid (end_any (L6.out.below b67.out))
  rw [fx_next.1, fx_next.2] at E7
  clear hb7 ST
  have eq1 := fun (w : World) => end_eq 2 1 2 1 w rfl rfl
  go_wp2_with fail
  refine E7.out.mono ?_
  rintro e w8 ⟨rfl, hb8⟩
  have b68 : Hid (Below w6.heap.size w6 w8) := Lib.hid (b67.out.trans (hb8.mono b67.out.size))
  have E8 : Hid (Calls Try.prog 27 #[.pointer (some ⟨m, 0, none⟩)] w8 fun e w' => e = .returned (.agg #[.int .i64 2, .int .i64 1]) ∧ Below w8.heap.size w8 w') := Lib.hid (end_any (F6.out.1.lg.below b68.out))
  clear hb8 E7
  go_wp2_with fail
  refine E8.out.mono ?_
  rintro e w9 ⟨rfl, hb9⟩
  have b69 : Hid (Below w6.heap.size w6 w9) := Lib.hid (b68.out.trans (hb9.mono b68.out.size))
  have E9 := Lib.hid (end_any (L6.out.below b69.out))
  rw [fx_next.1, fx_next.2] at E9
  clear hb9 E8
  go_wp2_with fail
  refine E9.out.mono ?_
  rintro e w10 ⟨rfl, hb10⟩
  have b610 : Hid (Below w6.heap.size w6 w10) := Lib.hid (b69.out.trans (hb10.mono b69.out.size))
  clear hb10 E9
  go_wp2_with fail
  go_ret
  refine ⟨rfl, ?_⟩
  have q1 : Below b w w1 := D1.out.1
  have lb : b ≤ l := F2.out.1.lg.b
  have q2 : Below b w1 w2 := F2.out.2.1.below s1.out (fun x hx => by omega)
  have t2 : b ≤ w2.heap.size := Nat.le_trans s1.out q2.size
  have q3 : Below b w2 w3 := B3.out.mono t2
  have t3 : b ≤ w3.heap.size := Nat.le_trans t2 q3.size
  have q4 : Below b w3 w4 := K4.out.below t3 (fun x hx => by omega)
  have t4 : b ≤ w4.heap.size := Nat.le_trans t3 q4.size
  have q5 : Below b w4 w5 := F5.out.2.below t4 (fun x hx => by
    rcases hx with hx | hx
    · exact (W4.out.dv.foot_lt x hx).1
    · omega)
  have q6 : Below b w5 w6 := F6.out.2.1.below s5.out (fun x hx => by omega)
  have t6 : b ≤ w6.heap.size := Nat.le_trans s5.out q6.size
  exact (((((q1.trans q2).trans q3).trans q4).trans q5).trans q6).trans (b610.out.mono t6)
end Go.Proofs.Ytfljbipnjfciaab
