/-
  The document's read, where it reads 'notin'.
-/
import Derived.Test.YthbbdhhkamccbaaDoorRdB
namespace Go.Proofs.YthbbdhhkamccbaaDoor
open Go.RowKit Go.Sort
set_option maxHeartbeats 60000000 in
set_option maxRecDepth 100000 in
theorem refRead_y (s : ByteArray) (w : World) (hs : s.size ≤ 1048576) (hw : (rr s.data.toList).how = 1) :
    Calls Tryd.prog 41 #[.string s] w fun e w' => RdR w.heap.size w' (rr s.data.toList) e ∧ Below w.heap.size w w' := by
  have HWH := Lib.hid hw
  clear hw
  have A1 := Lib.hid ((Below.refl _ w).alloc (Nat.le_refl _) (.cells #[.string ⟨#[]⟩, .int .i64 0, .slice none 0 0] 41))
  have Z1 := Lib.hid (zero3_new w)
  obtain ⟨W1, hW1⟩ : ∃ W, W = w.alloc (.cells #[.string ⟨#[]⟩, .int .i64 0, .slice none 0 0] 41) := ⟨_, rfl⟩
  rw [← hW1] at A1 Z1
  have bW : Hid (w.heap.size < W1.heap.size) := Lib.hid (by rw [hW1]; simp)
  have hW' := hW1.symm
  clear hW1
  obtain ⟨⟨k0, k1, k2⟩, f0, f1, f2⟩ := Z1.out
  by_cases hp : s.data.toList.head? = some 33
  · have h0 : 0 < s.size := by
      rw [← slen]
      cases h : s.data.toList with
      | nil => rw [h] at hp; simp at hp
      | cons x r => simp
    have g0 : decide ((s.size : Int) > 0) = true := decide_eq_true (by omega)
    have gb : (((s[0]'h0).toNat : Int) == 33) = true := by
      have := byte_at s 0 h0
      rw [← List.head?_eq_getElem?, hp] at this
      injection this with this
      rw [← this]; rfl
    have hr : Hid (rr s.data.toList = ⟨(s.extract 1 s.size).data.toList, 3, []⟩) := Lib.hid (by
      unfold rr
      rw [if_pos hp, ext_drop s 1, List.drop_one])
    clear hp
    go_enter Tryd.func41, Tryd.ntmps41
    go_wp2_with fail
    refine bodyPost_ret (v := .agg #[.string (s.extract 1 s.size), .int .i64 3, .slice none 0 0]) ?_ rfl ?_
    · rw [results_one rfl]
      go_simp
    · rw [hr.out]
      exact ⟨⟨⟨s.extract 1 s.size, 3, .slice none 0 0, []⟩, rfl, rfl, World.ownsRow_nil _ _ _ _, by simp⟩, below_three A1.out (Nat.le_refl _) _ _ _⟩
  · have hstart : rr s.data.toList = rrs [] s.data.toList := by unfold rr; rw [if_neg hp]
    have HS := Lib.hid hstart
    have SZ := Lib.hid hs
    have g0 : decide ((s.size : Int) > 0) = decide (0 < s.size) := by
      by_cases h : 0 < s.size
      · rw [decide_eq_true h, decide_eq_true (by omega)]
      · rw [decide_eq_false h, decide_eq_false (by omega)]
    by_cases hz : 0 < s.size
    · have gb : (((s[0]'hz).toNat : Int) == 33) = false := by
        rw [beq_eq_false_iff_ne]
        intro h
        apply hp
        rw [List.head?_eq_getElem?, byte_at s 0 hz]
        congr 1
        exact UInt8.toNat_inj.1 (by show (s[0]'hz).toNat = 33; omega)
      have hz' : (0 : Int) < (s.size : Int) := by omega
      clear hp hstart g0
      go_enter Tryd.func41, Tryd.ntmps41
      go_wp2_with fail
      clear gb
      go_loopg [3] s.size (fun g si wr => ∃ (k : Nat), k ≤ s.size ∧ g = s.size - k ∧ si = .int .i64 k ∧ rr s.data.toList = rrs (s.data.toList.take k) (s.data.toList.drop k) ∧ wr = W1)
      case atStart => exact ⟨0, Nat.zero_le _, rfl, rfl, by rw [HS.out]; rfl, rfl⟩
      case round =>
        obtain ⟨k, hk, hg, rfl, hrr, hwr⟩ := hrel
        subst hwr
        have R : Aside (gk = s.size - k ∧ rr s.data.toList = rrs (s.data.toList.take k) (s.data.toList.drop k)) := ⟨hg, hrr⟩
        clear hg hrr
        by_cases hlt : k < s.size
        · have hlt' : (k : Int) < (s.size : Int) := by omega
          obtain ⟨c, hc⟩ : ∃ c, c = s[k]'hlt := ⟨_, rfl⟩
          have RC : Hid (rr s.data.toList = rrs (s.data.toList.take k) (c :: s.data.toList.drop (k + 1))) := Lib.hid (by rw [R.out.2, drop_byte s k hlt, hc])
          have HC := Lib.hid hc
          by_cases c61 : c = 61
          · have gc : (((s[k]'hlt).toNat : Int) == 61) = true := by rw [← hc, c61]; rfl
            have hr : Hid (rr s.data.toList = ⟨(s.extract 0 k).data.toList, 0, [(s.extract (k + 1) s.size).data.toList]⟩) := Lib.hid (by
              rw [RC.out, c61, rrs, if_pos rfl, ext_take, ext_drop])
            clear c61 hc
            obtain ⟨X, hX⟩ : ∃ X, X = (wr.alloc (.cells #[.string (s.extract (k + 1) s.size)] 9)).drew := ⟨_, rfl⟩
            have AX : Hid (Below wr.heap.size wr X) := Lib.hid (by rw [hX]; exact ((Below.refl _ wr).alloc (Nat.le_refl _) _).drew)
            have OX : Hid (OwnS wr.heap.size X (.slice (some ⟨wr.heap.size, 0, none⟩) 1 1) [s.extract (k + 1) s.size]) := Lib.hid (by
              rw [hX]
              exact ⟨rfl, .inr ⟨wr.heap.size, 1, #[.string (s.extract (k + 1) s.size)], rfl, Nat.le_refl _, Array.getElem?_push_size, Nat.le_refl _, by decide, rfl, rfl⟩⟩)
            obtain ⟨⟨x0, x1, x2⟩, y0, y1, y2⟩ := Z1.out.below AX.out
            have u0 : (wr.alloc (.cells #[.string (s.extract (k + 1) s.size)] 9)).drew.cell? ⟨w.heap.size, 0, none⟩ = some (.string ⟨#[]⟩) := by rw [← hX]; exact x0
            have u1 : (wr.alloc (.cells #[.string (s.extract (k + 1) s.size)] 9)).drew.cell? ⟨w.heap.size, 1, none⟩ = some (.int .i64 0) := by rw [← hX]; exact x1
            have u2 : (wr.alloc (.cells #[.string (s.extract (k + 1) s.size)] 9)).drew.cell? ⟨w.heap.size, 2, none⟩ = some (.slice none 0 0) := by rw [← hX]; exact x2
            have t0 : (wr.alloc (.cells #[.string (s.extract (k + 1) s.size)] 9)).drew.frozen? ⟨w.heap.size, 0, none⟩ = false := by rw [← hX]; exact y0
            have t1 : (wr.alloc (.cells #[.string (s.extract (k + 1) s.size)] 9)).drew.frozen? ⟨w.heap.size, 1, none⟩ = false := by rw [← hX]; exact y1
            have t2 : (wr.alloc (.cells #[.string (s.extract (k + 1) s.size)] 9)).drew.frozen? ⟨w.heap.size, 2, none⟩ = false := by rw [← hX]; exact y2
            have q0 : (wr.alloc (.cells #[.string (s.extract (k + 1) s.size)] 9)).cell? ⟨w.heap.size, 0, none⟩ = some (.string ⟨#[]⟩) := u0
            have q1 : (wr.alloc (.cells #[.string (s.extract (k + 1) s.size)] 9)).cell? ⟨w.heap.size, 1, none⟩ = some (.int .i64 0) := u1
            have q2 : (wr.alloc (.cells #[.string (s.extract (k + 1) s.size)] 9)).cell? ⟨w.heap.size, 2, none⟩ = some (.slice none 0 0) := u2
            have r0 : (wr.alloc (.cells #[.string (s.extract (k + 1) s.size)] 9)).frozen? ⟨w.heap.size, 0, none⟩ = false := t0
            have r1 : (wr.alloc (.cells #[.string (s.extract (k + 1) s.size)] 9)).frozen? ⟨w.heap.size, 1, none⟩ = false := t1
            have r2 : (wr.alloc (.cells #[.string (s.extract (k + 1) s.size)] 9)).frozen? ⟨w.heap.size, 2, none⟩ = false := t2
            have hbw : w.heap.size < wr.heap.size := bW.out
            have wk : IntKind.i64.wrap ((k : Int) + 1) = ((k + 1 : Nat) : Int) := by
              have := SZ.out
              simp [IntKind.wrap, IntKind.bits, IntKind.signed]
              omega
            go_wp2_with fail
            go_region
            clear u0 u1 u2 t0 t1 t2 q0 q1 q2 r0 r1 r2 hX wk hbw x0 x1 x2 y0 y1 y2
            go_wp2_with fail
            obtain ⟨z0, z1, z2⟩ := three_at wr w.heap.size (.string (s.extract 0 k)) (.int .i64 0) (.slice (some ⟨wr.heap.size, 0, none⟩) 1 1) (.cells #[.string (s.extract (k + 1) s.size)] 9) Z1.out
            refine bodyPost_ret (v := .agg #[.string (s.extract 0 k), .int .i64 0, .slice (some ⟨wr.heap.size, 0, none⟩) 1 1]) ?_ rfl ?_
            · rw [results_one rfl]
              go_simp
            · rw [hr.out]
              exact ⟨⟨⟨s.extract 0 k, 0, .slice (some ⟨wr.heap.size, 0, none⟩) 1 1, [s.extract (k + 1) s.size]⟩, rfl, rfl, (own_new3 wr w.heap.size _ _ _ _).mono (Nat.le_of_lt bW.out), by
                intro t ht
                simp only [List.mem_singleton] at ht
                subst ht
                have := SZ.out
                have h2 := ext_drop s (k + 1)
                have h3 := congrArg List.length h2
                rw [slen, List.length_drop, slen] at h3
                omega⟩, ((below_three A1.out (Nat.le_refl _) _ _ _).alloc (by rw [size_three]; exact Nat.le_of_lt bW.out) _).drew⟩
          · have g61 : (((s[k]'hlt).toNat : Int) == 61) = false := by
              rw [beq_eq_false_iff_ne, ← hc]
              intro h
              exact c61 (UInt8.toNat_inj.1 (by show c.toNat = 61; omega))
            have cont : Hid (c ≠ 32 → ¬ (c = 33 ∧ (s.data.toList.drop (k + 1)).head? = some 61) → rr s.data.toList = rrs (s.data.toList.take (k + 1)) (s.data.toList.drop (k + 1))) := Lib.hid fun h1 h2 => by
              rw [RC.out, rrs, if_neg c61, if_neg h2, if_neg h1, take_byte s k hlt, ← HC.out]
            have C61 := Lib.hid c61
            clear c61
            by_cases c33 : c = 33
            · have gc : (((s[k]'hlt).toNat : Int) == 33) = true := by rw [← hc, c33]; rfl
              have C33 := Lib.hid c33
              clear c33 hc
              by_cases hn : k + 1 < s.size
              · have hn' : decide (((k : Int) + 1) < (s.size : Int)) = true := decide_eq_true (by omega)
                by_cases hn61 : s[k + 1]'hn = 61
                · have gn : (((s[k + 1]'hn).toNat : Int) == 61) = true := by rw [hn61]; rfl
                  have hr : Hid (rr s.data.toList = ⟨(s.extract 0 k).data.toList, 1, [(s.extract (k + 2) s.size).data.toList]⟩) := Lib.hid (by
                    rw [RC.out, C33.out, rrs, if_neg (by decide), if_pos ⟨rfl, by rw [drop_byte s (k + 1) hn, hn61]; rfl⟩, ext_take, ext_drop, drop_byte s (k + 1) hn]
                    rfl)
                  clear hn61
                  obtain ⟨X, hX⟩ : ∃ X, X = (wr.alloc (.cells #[.string (s.extract (k + 2) s.size)] 9)).drew := ⟨_, rfl⟩
                  have AX : Hid (Below wr.heap.size wr X) := Lib.hid (by rw [hX]; exact ((Below.refl _ wr).alloc (Nat.le_refl _) _).drew)
                  have OX : Hid (OwnS wr.heap.size X (.slice (some ⟨wr.heap.size, 0, none⟩) 1 1) [s.extract (k + 2) s.size]) := Lib.hid (by
                    rw [hX]
                    exact ⟨rfl, .inr ⟨wr.heap.size, 1, #[.string (s.extract (k + 2) s.size)], rfl, Nat.le_refl _, Array.getElem?_push_size, Nat.le_refl _, by decide, rfl, rfl⟩⟩)
                  obtain ⟨⟨x0, x1, x2⟩, y0, y1, y2⟩ := Z1.out.below AX.out
                  have u0 : (wr.alloc (.cells #[.string (s.extract (k + 2) s.size)] 9)).drew.cell? ⟨w.heap.size, 0, none⟩ = some (.string ⟨#[]⟩) := by rw [← hX]; exact x0
                  have u1 : (wr.alloc (.cells #[.string (s.extract (k + 2) s.size)] 9)).drew.cell? ⟨w.heap.size, 1, none⟩ = some (.int .i64 0) := by rw [← hX]; exact x1
                  have u2 : (wr.alloc (.cells #[.string (s.extract (k + 2) s.size)] 9)).drew.cell? ⟨w.heap.size, 2, none⟩ = some (.slice none 0 0) := by rw [← hX]; exact x2
                  have t0 : (wr.alloc (.cells #[.string (s.extract (k + 2) s.size)] 9)).drew.frozen? ⟨w.heap.size, 0, none⟩ = false := by rw [← hX]; exact y0
                  have t1 : (wr.alloc (.cells #[.string (s.extract (k + 2) s.size)] 9)).drew.frozen? ⟨w.heap.size, 1, none⟩ = false := by rw [← hX]; exact y1
                  have t2 : (wr.alloc (.cells #[.string (s.extract (k + 2) s.size)] 9)).drew.frozen? ⟨w.heap.size, 2, none⟩ = false := by rw [← hX]; exact y2
                  have q0 : (wr.alloc (.cells #[.string (s.extract (k + 2) s.size)] 9)).cell? ⟨w.heap.size, 0, none⟩ = some (.string ⟨#[]⟩) := u0
                  have q1 : (wr.alloc (.cells #[.string (s.extract (k + 2) s.size)] 9)).cell? ⟨w.heap.size, 1, none⟩ = some (.int .i64 0) := u1
                  have q2 : (wr.alloc (.cells #[.string (s.extract (k + 2) s.size)] 9)).cell? ⟨w.heap.size, 2, none⟩ = some (.slice none 0 0) := u2
                  have r0 : (wr.alloc (.cells #[.string (s.extract (k + 2) s.size)] 9)).frozen? ⟨w.heap.size, 0, none⟩ = false := t0
                  have r1 : (wr.alloc (.cells #[.string (s.extract (k + 2) s.size)] 9)).frozen? ⟨w.heap.size, 1, none⟩ = false := t1
                  have r2 : (wr.alloc (.cells #[.string (s.extract (k + 2) s.size)] 9)).frozen? ⟨w.heap.size, 2, none⟩ = false := t2
                  have hbw : w.heap.size < wr.heap.size := bW.out
                  have wk : IntKind.i64.wrap ((k : Int) + 2) = ((k + 2 : Nat) : Int) := by
                    have := SZ.out
                    simp [IntKind.wrap, IntKind.bits, IntKind.signed]
                    omega
                  go_wp2_with fail
                  go_region
                  clear u0 u1 u2 t0 t1 t2 q0 q1 q2 r0 r1 r2 hX wk hbw x0 x1 x2 y0 y1 y2
                  go_wp2_with fail
                  obtain ⟨z0, z1, z2⟩ := three_at wr w.heap.size (.string (s.extract 0 k)) (.int .i64 1) (.slice (some ⟨wr.heap.size, 0, none⟩) 1 1) (.cells #[.string (s.extract (k + 2) s.size)] 9) Z1.out
                  refine bodyPost_ret (v := .agg #[.string (s.extract 0 k), .int .i64 1, .slice (some ⟨wr.heap.size, 0, none⟩) 1 1]) ?_ rfl ?_
                  · rw [results_one rfl]
                    go_simp
                  · rw [hr.out]
                    exact ⟨⟨⟨s.extract 0 k, 1, .slice (some ⟨wr.heap.size, 0, none⟩) 1 1, [s.extract (k + 2) s.size]⟩, rfl, rfl, (own_new3 wr w.heap.size _ _ _ _).mono (Nat.le_of_lt bW.out), by
                      intro t ht
                      simp only [List.mem_singleton] at ht
                      subst ht
                      have := SZ.out
                      have h2 := ext_drop s (k + 2)
                      have h3 := congrArg List.length h2
                      rw [slen, List.length_drop, slen] at h3
                      omega⟩, ((below_three A1.out (Nat.le_refl _) _ _ _).alloc (by rw [size_three]; exact Nat.le_of_lt bW.out) _).drew⟩
                · have gn : (((s[k + 1]'hn).toNat : Int) == 61) = false := by
                    rw [beq_eq_false_iff_ne]
                    intro h
                    exact hn61 (UInt8.toNat_inj.1 (by show (s[k + 1]'hn).toNat = 61; omega))
                  have NX := Lib.hid (cont.out (by rw [C33.out]; decide) (fun h => hn61 (by
                    have h2 := h.2
                    rw [drop_byte s (k + 1) hn] at h2
                    injection h2)))
                  clear hn61
                  go_wp2_with fail
                  go_roundg (s.size - (k + 1))
                  case measure => have := R.out.1; omega
                  case rel => exact ⟨k + 1, by omega, rfl, by go_num, NX.out, rfl⟩
              · have hn' : decide (((k : Int) + 1) < (s.size : Int)) = false := decide_eq_false (by omega)
                have NX := Lib.hid (cont.out (by rw [C33.out]; decide) (fun h => by
                  have h2 := h.2
                  rw [List.drop_of_length_le (by rw [slen]; omega)] at h2
                  cases h2))
                go_wp2_with fail
                go_roundg (s.size - (k + 1))
                case measure => have := R.out.1; omega
                case rel => exact ⟨k + 1, by omega, rfl, by go_num, NX.out, rfl⟩
            · have g33 : (((s[k]'hlt).toNat : Int) == 33) = false := by
                rw [beq_eq_false_iff_ne, ← hc]
                intro h
                exact c33 (UInt8.toNat_inj.1 (by show c.toNat = 33; omega))
              by_cases c32 : c = 32
              · have g32 : (((s[k]'hlt).toNat : Int) == 32) = true := by rw [← hc, c32]; rfl
                have rz : (s.extract (k + 1) s.size).size ≤ 1048576 := by
                  have h3 := congrArg List.length (ext_drop s (k + 1))
                  rw [slen, List.length_drop, slen] at h3
                  omega
                obtain ⟨P, hP⟩ : ∃ P, P = pieces 32 (s.data.toList.drop (k + 1)) := ⟨_, rfl⟩
                have PC : Hid (∀ W, Calls Tryd.prog 40 #[.string (s.extract (k + 1) s.size), .int .u8 32] W fun e w' => ∃ v, e = .returned v ∧ OwnS W.heap.size w' v (P.map bytesOf) ∧ Below W.heap.size W w') := Lib.hid fun W => by
                  have h := pcs_any 32 32 rfl (s.extract (k + 1) s.size) W rz
                  rw [ext_drop, ← hP] at h
                  exact h
                have hr : Hid (rr s.data.toList = ⟨(s.extract 0 k).data.toList, if P.getD 0 [] = [110, 111, 116, 105, 110] then 1 else 0, svals P⟩) := Lib.hid (by
                  rw [RC.out, c32, rrs, if_neg (by decide), if_neg (by intro h; exact absurd h.1 (by decide)), if_pos rfl, ext_take]
                  unfold spaced
                  rw [← hP])
                have PN : P ≠ [] := by rw [hP]; exact pieces_ne _ _
                have PZ : Hid (∀ u ∈ P, u.length ≤ 1048576) := Lib.hid (by
                  intro u hu
                  have h := mem_pieces 32 (s.data.toList.drop (k + 1)) u (by rw [← hP]; exact hu)
                  rw [List.length_drop, slen] at h
                  omega)
                have PL : Hid (P.length ≤ 1048577) := Lib.hid (by
                  have h := pieces_len 32 (s.data.toList.drop (k + 1))
                  rw [← hP, List.length_drop, slen] at h
                  omega)
                obtain ⟨n, hn⟩ : ∃ n, n = P.length := ⟨_, rfl⟩
                have n1 : 1 ≤ n := by
                  rw [hn]
                  exact List.length_pos_iff.2 PN
                have HN := Lib.hid hn
                clear c32 c33 hc rz hP PN hn
                go_wp2_with fail
                refine (PC.out wr).mono ?_
                rintro e w2 ⟨vp, rfl, own, hb⟩
                have O2 := Lib.hid own
                have B2 := Lib.hid hb
                obtain ⟨ap, cp, ep, hcp1, hcp2⟩ := own.shape
                rw [List.length_map, ← HN.out] at ep hcp1
                subst ep
                unfold maxLen at hcp2
                obtain ⟨bp, op, rfl, pp0⟩ := own.strs.at 0 (by rw [List.length_map, ← HN.out]; omega)
                obtain ⟨p0, hp0⟩ : ∃ p0, p0 = (P.map bytesOf).getD 0 ⟨#[]⟩ := ⟨_, rfl⟩
                rw [← hp0, Nat.add_zero] at pp0
                have P0 := Lib.hid hp0
                obtain ⟨X, hX⟩ : ∃ X, X = w2.alloc (.cells #[.string (s.extract 0 k), .int .i64 0, .slice none 0 0] 41) := ⟨_, rfl⟩
                have AX : Hid (Below w2.heap.size w2 X) := Lib.hid (by rw [hX]; exact (Below.refl _ w2).alloc (Nat.le_refl _) _)
                have b0 : X.cell? ⟨w2.heap.size, 0, none⟩ = some (.string (s.extract 0 k)) := by rw [hX, World.cell?_alloc_new]; rfl
                have b1 : X.cell? ⟨w2.heap.size, 1, none⟩ = some (.int .i64 0) := by rw [hX, World.cell?_alloc_new]; rfl
                have b2 : X.cell? ⟨w2.heap.size, 2, none⟩ = some (.slice none 0 0) := by rw [hX, World.cell?_alloc_new]; rfl
                have ff1 : X.frozen? ⟨w2.heap.size, 1, none⟩ = false := by rw [hX]; simp
                have ff2 : X.frozen? ⟨w2.heap.size, 2, none⟩ = false := by rw [hX]; simp
                have pX : X.cell? ⟨bp, op, none⟩ = some (.string p0) := (AX.out.cell (block_lt_of_cell pp0)).trans pp0
                have sm1 : X.setCell ⟨w2.heap.size, 1, none⟩ (.int .i64 0) = X := by rw [hX]; go_simp
                have sm2 : X.setCell ⟨w2.heap.size, 2, none⟩ (.slice none 0 0) = X := by rw [hX]; go_simp
                have hX' := hX.symm
                clear hX own hb hp0 PC
                have NOT : (p0.toList == [110, 111, 116, 105, 110]) = decide (P.getD 0 [] = [110, 111, 116, 105, 110]) := by
                  rw [P0.out, list_of_bytes]
                  have e : ((P.map bytesOf).getD 0 ⟨#[]⟩).data.toList = P.getD 0 [] := by
                    cases P with
                    | nil => rfl
                    | cons x r => exact data_bys x
                  rw [e]
                  by_cases h : P.getD 0 [] = [110, 111, 116, 105, 110]
                  · rw [decide_eq_true h, h]; rfl
                  · rw [decide_eq_false h, beq_eq_false_iff_ne]; exact h
                have tbl : Hid (wr.heap.size ≤ w2.heap.size ∧ w2.heap.size < X.heap.size) := Lib.hid ⟨B2.out.size, block_lt_of_cell b0⟩
                have OP : Hid (OwnS wr.heap.size X (.slice (some ⟨bp, op, none⟩) n cp) (P.map bytesOf)) := Lib.hid (O2.out.below AX.out)
                have OPL : Hid (bp < w2.heap.size) := Lib.hid (block_lt_of_cell pp0)
                have BX : Hid (Below wr.heap.size wr X) := Lib.hid (B2.out.trans (AX.out.mono B2.out.size))
                have TX : Hid (T3D X w2.heap.size (s.extract 0 k) 0 (.slice none 0 0)) := Lib.hid ⟨⟨b0, b1, b2⟩, ff1, ff2⟩
                obtain ⟨tb, htb⟩ : ∃ tb, tb = w2.heap.size := ⟨_, rfl⟩
                by_cases hnot : P.getD 0 [] = [110, 111, 116, 105, 110]
                · have NO : (p0.toList == [110, 111, 116, 105, 110]) = true := by rw [NOT, decide_eq_true hnot]
                  have hr2 : Hid (rr s.data.toList = ⟨(s.extract 0 k).data.toList, 1, svals P⟩) := Lib.hid (by rw [hr.out, if_pos hnot])
                  clear hnot NOT
                  go_wp2_with fail
                  clear NO b0 b1 b2 ff1 ff2 pX hX' pp0 sm1 sm2
                  rw [← htb] at TX tbl OPL ⊢
                  clear htb
                  obtain ⟨Y, hY⟩ : ∃ Y, Y = X.setCell ⟨tb, 1, none⟩ (.int .i64 1) := ⟨_, rfl⟩
                  have OY : Hid (OwnS wr.heap.size Y (.slice (some ⟨bp, op, none⟩) n cp) (P.map bytesOf)) := Lib.hid (by
                    rw [hY]
                    exact OP.out.set_ne (p := ⟨tb, 1, none⟩) (by intro e; injection e with e; have := OPL.out; simp only at e; omega) _)
                  have BY : Hid (Below wr.heap.size wr Y) := Lib.hid (by rw [hY]; exact BX.out.setCell (p := ⟨tb, 1, none⟩) tbl.out.1 _)
                  have TY : Hid (T3D Y tb (s.extract 0 k) 1 (.slice none 0 0)) := Lib.hid (by rw [hY]; exact TX.out.set1 1)
                  rw [← hY]
                  clear hY OP BX TX
                  obtain ⟨B0, hB0⟩ : ∃ B0, B0 = wr.heap.size := ⟨_, rfl⟩
                  have WTB : Hid (w.heap.size < tb) := Lib.hid (Nat.lt_of_lt_of_le bW.out tbl.out.1)
                  have BPT : Hid (bp < tb) := OPL
                  have ZY := Lib.hid (Z1.out.below BY.out)
                  have BWY := Lib.hid (A1.out.trans (BY.out.mono A1.out.size))
                  rw [← hB0] at OY
                  have BPL : Hid (B0 ≤ tb) := Lib.hid (by rw [hB0]; exact tbl.out.1)
                  clear BY tbl OPL hB0 k0 k1 k2 f0 f1 f2 A1 Z1
                  go_loopg [6] (n - 1) (fun g sj wq => ∃ (j : Nat) (vo : Value), 1 ≤ j ∧ j ≤ n ∧ g = n - j ∧ sj = .int .i64 j ∧ T3D wq tb (s.extract 0 k) 1 vo ∧ OwnS (tb + 1) wq vo (((svals P).take (j - 1)).map bytesOf) ∧ OwnS B0 wq (.slice (some ⟨bp, op, none⟩) n cp) (P.map bytesOf) ∧ Zero3 wq w.heap.size ∧ Below w.heap.size w wq)
                  case atStart => exact ⟨1, _, Nat.le_refl _, n1, rfl, rfl, TY.out, World.ownsRow_nil _ _ _ _, OY.out, ZY.out, BWY.out⟩
                  case round =>
                    obtain ⟨j, vo, hj1, hjn, hg, rfl, hT, hO, hPs, hZ, hbb⟩ := hrel
                    have R : Aside (gk = n - j) := hg
                    have TV := Lib.hid hT
                    have OV := Lib.hid hO
                    have PV := Lib.hid hPs
                    have ZV := Lib.hid hZ
                    have BV := Lib.hid hbb
                    have SB : Hid (tb + 1 ≤ wr.heap.size) := Lib.hid (block_lt_of_cell hT.1.1)
                    have VB : Hid (vo.ownBlock ≠ some tb ∧ vo.ownBlock ≠ some w.heap.size ∧ ∀ x, (Value.slice (some ⟨bp, op, none⟩) n cp).ownBlock = some x → vo.ownBlock ≠ some x) := Lib.hid ⟨fun e => by have := (hO.lt _ e).1; omega, fun e => by have := (hO.lt _ e).1; have := WTB.out; omega, fun x hx e => by
                      have h1 := (hO.lt _ e).1
                      have h2 : bp = x := by injection hx
                      have := BPT.out
                      omega⟩
                    have VB3 : Hid (∀ x, vo.ownBlock = some x → w.heap.size ≤ x) := Lib.hid fun x hx => by have := (hO.lt _ hx).1; have := WTB.out; omega
                    obtain ⟨av, cv, ev, _, _⟩ := hO.shape
                    obtain ⟨mv, hmv⟩ : ∃ mv, mv = (((svals P).take (j - 1)).map bytesOf).length := ⟨_, rfl⟩
                    rw [← hmv] at ev
                    have LL : Hid ((((svals P).take (j - 1)).map bytesOf).length * 16 + 16 ≤ 140737488355328) := Lib.hid (by
                      rw [List.length_map, List.length_take]
                      have := PL.out
                      have := HN.out
                      omega)
                    have LL : Hid (((((svals P).take (j - 1)).map bytesOf).length + 1) * 16 ≤ 140737488355328) := Lib.hid (by have := LL.out; omega)
                    subst ev
                    obtain ⟨⟨d0, d1, d2⟩, df1, df2⟩ := hT
                    clear hg hO hPs hZ hbb hmv
                    by_cases hlt2 : j < n
                    · have hlt2' : (j : Int) < (n : Int) := by omega
                      obtain ⟨_, _, ea, pj⟩ := PV.out.strs.at j (by rw [List.length_map, ← HN.out]; exact hlt2)
                      cases ea
                      obtain ⟨pv, hpv0⟩ : ∃ pv, pv = (P.map bytesOf).getD j ⟨#[]⟩ := ⟨_, rfl⟩
                      rw [← hpv0] at pj
                      have PVD : Hid (pv.data.toList = P.getD j []) := Lib.hid (by
                        rw [hpv0, List.getD_eq_getElem?_getD, List.getElem?_map, List.getD_eq_getElem?_getD, List.getElem?_eq_getElem (by rw [← HN.out]; exact hlt2)]
                        exact data_bys _)
                      have pvz : pv.size ≤ 1048576 := by
                        rw [← slen, PVD.out]
                        refine PZ.out _ ?_
                        rw [List.getD_eq_getElem?_getD, List.getElem?_eq_getElem (by rw [← HN.out]; exact hlt2)]
                        exact List.getElem_mem _
                      obtain ⟨qn, hqn⟩ : ∃ qn, qn = n - 1 := ⟨_, rfl⟩
                      have en : ((n : Int) - 1) = (qn : Int) := by omega
                      have QN := Lib.hid hqn
                      have ADJ : Hid (∀ t : ByteArray, t.data.toList = adj n j (P.getD j []) → t = bytesOf (adj n j (P.getD j []))) := Lib.hid fun t h => by rw [← h]; exact (bytesOf_data t).symm
                      have ADL : Hid ((j = n - 1 → adj n j (P.getD j []) = (if j = 1 then (P.getD j []).drop 1 else P.getD j []).dropLast) ∧ (¬ j = n - 1 → adj n j (P.getD j []) = if j = 1 then (P.getD j []).drop 1 else P.getD j [])) := Lib.hid ⟨fun h => by unfold adj; rw [if_pos h], fun h => by unfold adj; rw [if_neg h]⟩
                      clear hpv0
                      by_cases hj : j = 1
                      · have gj : ((j : Int) == 1) = true := by rw [beq_iff_eq]; omega
                        have HJ := Lib.hid hj
                        clear hj
                        by_cases hpv : 0 < pv.size
                        · have gp : decide ((pv.size : Int) > 0) = true := decide_eq_true (by omega)
                          have gp2 : decide (0 < pv.size) = true := decide_eq_true hpv
                          have hpv1 : 1 ≤ pv.size := hpv
                          have EQ0 : (pv.extract 1 pv.size).data.toList = if j = 1 then (P.getD j []).drop 1 else P.getD j [] := by rw [if_pos HJ.out, ext_drop, PVD.out]
                          obtain ⟨qv, hqv⟩ : ∃ qv, pv.extract 1 pv.size = qv := ⟨_, rfl⟩
                          rw [hqv] at EQ0
                          have EQ := Lib.hid EQ0
                          have qvz : qv.size ≤ 1048576 := by
                            have h := congrArg List.length (ext_drop pv 1)
                            rw [hqv, slen, List.length_drop, slen] at h
                            omega
                          clear EQ0
                          by_cases hla : j = n - 1
                          · have gl : ((j : Int) == (qn : Int)) = true := by rw [beq_iff_eq]; omega
                            have gl3 : ((j : Int) == ((n - 1 : Nat) : Int)) = true := by rw [beq_iff_eq]; omega
                            have HLA := Lib.hid hla
                            clear hla
                            by_cases hv1 : 0 < qv.size
                            · have gv : decide ((qv.size : Int) > 0) = true := decide_eq_true (by omega)
                              have gv2 : decide (0 < qv.size) = true := decide_eq_true hv1
                              obtain ⟨zz, hzz⟩ : ∃ zz, zz = qv.size - 1 := ⟨_, rfl⟩
                              have ez : ((qv.size : Int) - 1) = (zz : Int) := by omega
                              have hzl : zz ≤ qv.size := by omega
                              have TE : Hid ((qv.extract 0 zz).data.toList = adj n j (P.getD j [])) := Lib.hid (by
                                rw [ext_take, ADL.out.1 HLA.out, hzz, ← slen, ← List.dropLast_eq_take, EQ.out])
                              clear hzz
                              go_wp2_with (at_builtin; refine app_txt rfl _ _ rfl rfl OV.out SB.out ((qv.extract 0 zz)) rfl LL.out ?_)
                              intro v6 w6 o6 hg6
                              have T6 := Lib.hid (TV.out.grown hg6 VB.out.1)
                              have Z6 := Lib.hid (ZV.out.grown hg6 VB.out.2.1)
                              have P6 := Lib.hid (PV.out.grown hg6 (fun x hx e => VB.out.2.2 x hx e))
                              have B6 := Lib.hid (BV.out.grown hg6 BV.out.size (fun x hx => VB3.out x hx))
                              have O6 : Hid (OwnS (tb + 1) w6 v6 (((svals P).take j).map bytesOf)) := Lib.hid (by
                                rw [svals_step P j hj1 (by rw [← HN.out]; exact hlt2), List.map_append, List.map_singleton, ← HN.out, ← ADJ.out ((qv.extract 0 zz)) TE.out]
                                first | exact o6 | (rw [List.map_take]; exact o6))
                              obtain ⟨a6, c6, e6, _, _⟩ := O6.out.shape
                              obtain ⟨m6, hm6⟩ : ∃ m6, m6 = (((svals P).take j).map bytesOf).length := ⟨_, rfl⟩
                              rw [← hm6] at e6
                              clear hm6
                              subst e6
                              obtain ⟨⟨z0, z1, z2⟩, zf1, zf2⟩ := T6.out
                              clear hg6 o6
                              go_wp2_with fail
                              go_roundg (n - (j + 1))
                              case measure => have := R.out; omega
                              case rel =>
                                refine ⟨j + 1, _, by omega, by omega, rfl, by go_num, T6.out.set2 _, ?_, ?_, ?_, ?_⟩
                                · exact O6.out.set_ne (p := ⟨tb, 2, none⟩) (fun e => by have := (O6.out.lt _ e).1; simp only at this; omega) _
                                · exact P6.out.set_ne (p := ⟨tb, 2, none⟩) (by intro e; injection e with e; have := BPT.out; simp only at e; omega) _
                                · exact Z6.out.set_ne (p := ⟨tb, 2, none⟩) (by have := WTB.out; simp only; omega) _
                                · exact B6.out.setCell (p := ⟨tb, 2, none⟩) (Nat.le_of_lt WTB.out) _
                            · have gv : decide ((qv.size : Int) > 0) = false := decide_eq_false (by omega)
                              have gv2 : decide (0 < qv.size) = false := decide_eq_false hv1
                              have TE : Hid ((qv).data.toList = adj n j (P.getD j [])) := Lib.hid (by
                                have e0 : (qv).data.toList = [] := List.length_eq_zero_iff.1 (by rw [slen]; omega)
                                rw [ADL.out.1 HLA.out, ← EQ.out, e0]; rfl)
                              go_wp2_with (at_builtin; refine app_txt rfl _ _ rfl rfl OV.out SB.out (qv) rfl LL.out ?_)
                              intro v6 w6 o6 hg6
                              have T6 := Lib.hid (TV.out.grown hg6 VB.out.1)
                              have Z6 := Lib.hid (ZV.out.grown hg6 VB.out.2.1)
                              have P6 := Lib.hid (PV.out.grown hg6 (fun x hx e => VB.out.2.2 x hx e))
                              have B6 := Lib.hid (BV.out.grown hg6 BV.out.size (fun x hx => VB3.out x hx))
                              have O6 : Hid (OwnS (tb + 1) w6 v6 (((svals P).take j).map bytesOf)) := Lib.hid (by
                                rw [svals_step P j hj1 (by rw [← HN.out]; exact hlt2), List.map_append, List.map_singleton, ← HN.out, ← ADJ.out (qv) TE.out]
                                first | exact o6 | (rw [List.map_take]; exact o6))
                              obtain ⟨a6, c6, e6, _, _⟩ := O6.out.shape
                              obtain ⟨m6, hm6⟩ : ∃ m6, m6 = (((svals P).take j).map bytesOf).length := ⟨_, rfl⟩
                              rw [← hm6] at e6
                              clear hm6
                              subst e6
                              obtain ⟨⟨z0, z1, z2⟩, zf1, zf2⟩ := T6.out
                              clear hg6 o6
                              go_wp2_with fail
                              go_roundg (n - (j + 1))
                              case measure => have := R.out; omega
                              case rel =>
                                refine ⟨j + 1, _, by omega, by omega, rfl, by go_num, T6.out.set2 _, ?_, ?_, ?_, ?_⟩
                                · exact O6.out.set_ne (p := ⟨tb, 2, none⟩) (fun e => by have := (O6.out.lt _ e).1; simp only at this; omega) _
                                · exact P6.out.set_ne (p := ⟨tb, 2, none⟩) (by intro e; injection e with e; have := BPT.out; simp only at e; omega) _
                                · exact Z6.out.set_ne (p := ⟨tb, 2, none⟩) (by have := WTB.out; simp only; omega) _
                                · exact B6.out.setCell (p := ⟨tb, 2, none⟩) (Nat.le_of_lt WTB.out) _
                          · have gl : ((j : Int) == (qn : Int)) = false := by rw [beq_eq_false_iff_ne]; omega
                            have HLA := Lib.hid hla
                            have TE : Hid ((qv).data.toList = adj n j (P.getD j [])) := Lib.hid (by rw [ADL.out.2 HLA.out, EQ.out])
                            go_wp2_with (at_builtin; refine app_txt rfl _ _ rfl rfl OV.out SB.out (qv) rfl LL.out ?_)
                            intro v6 w6 o6 hg6
                            have T6 := Lib.hid (TV.out.grown hg6 VB.out.1)
                            have Z6 := Lib.hid (ZV.out.grown hg6 VB.out.2.1)
                            have P6 := Lib.hid (PV.out.grown hg6 (fun x hx e => VB.out.2.2 x hx e))
                            have B6 := Lib.hid (BV.out.grown hg6 BV.out.size (fun x hx => VB3.out x hx))
                            have O6 : Hid (OwnS (tb + 1) w6 v6 (((svals P).take j).map bytesOf)) := Lib.hid (by
                              rw [svals_step P j hj1 (by rw [← HN.out]; exact hlt2), List.map_append, List.map_singleton, ← HN.out, ← ADJ.out (qv) TE.out]
                              first | exact o6 | (rw [List.map_take]; exact o6))
                            obtain ⟨a6, c6, e6, _, _⟩ := O6.out.shape
                            obtain ⟨m6, hm6⟩ : ∃ m6, m6 = (((svals P).take j).map bytesOf).length := ⟨_, rfl⟩
                            rw [← hm6] at e6
                            clear hm6
                            subst e6
                            obtain ⟨⟨z0, z1, z2⟩, zf1, zf2⟩ := T6.out
                            clear hg6 o6
                            go_wp2_with fail
                            go_roundg (n - (j + 1))
                            case measure => have := R.out; omega
                            case rel =>
                              refine ⟨j + 1, _, by omega, by omega, rfl, by go_num, T6.out.set2 _, ?_, ?_, ?_, ?_⟩
                              · exact O6.out.set_ne (p := ⟨tb, 2, none⟩) (fun e => by have := (O6.out.lt _ e).1; simp only at this; omega) _
                              · exact P6.out.set_ne (p := ⟨tb, 2, none⟩) (by intro e; injection e with e; have := BPT.out; simp only at e; omega) _
                              · exact Z6.out.set_ne (p := ⟨tb, 2, none⟩) (by have := WTB.out; simp only; omega) _
                              · exact B6.out.setCell (p := ⟨tb, 2, none⟩) (Nat.le_of_lt WTB.out) _
                        · have gp : decide ((pv.size : Int) > 0) = false := decide_eq_false (by omega)
                          have gp2 : decide (0 < pv.size) = false := decide_eq_false hpv
                          have EQ : Hid (pv.data.toList = if j = 1 then (P.getD j []).drop 1 else P.getD j []) := Lib.hid (by
                            have e0 : pv.data.toList = [] := List.length_eq_zero_iff.1 (by rw [slen]; omega)
                            rw [if_pos HJ.out, ← PVD.out, e0]; rfl)
                          by_cases hla : j = n - 1
                          · have gl : ((j : Int) == (qn : Int)) = true := by rw [beq_iff_eq]; omega
                            have gl3 : ((j : Int) == ((n - 1 : Nat) : Int)) = true := by rw [beq_iff_eq]; omega
                            have HLA := Lib.hid hla
                            clear hla
                            by_cases hv1 : 0 < pv.size
                            · have gv : decide ((pv.size : Int) > 0) = true := decide_eq_true (by omega)
                              have gv2 : decide (0 < pv.size) = true := decide_eq_true hv1
                              obtain ⟨zz, hzz⟩ : ∃ zz, zz = pv.size - 1 := ⟨_, rfl⟩
                              have ez : ((pv.size : Int) - 1) = (zz : Int) := by omega
                              have hzl : zz ≤ pv.size := by omega
                              have TE : Hid ((pv.extract 0 zz).data.toList = adj n j (P.getD j [])) := Lib.hid (by
                                rw [ext_take, ADL.out.1 HLA.out, hzz, ← slen, ← List.dropLast_eq_take, EQ.out])
                              clear hzz
                              exact absurd hv1 hpv
                            · have gv : decide ((pv.size : Int) > 0) = false := decide_eq_false (by omega)
                              have gv2 : decide (0 < pv.size) = false := decide_eq_false hv1
                              have TE : Hid ((pv).data.toList = adj n j (P.getD j [])) := Lib.hid (by
                                have e0 : (pv).data.toList = [] := List.length_eq_zero_iff.1 (by rw [slen]; omega)
                                rw [ADL.out.1 HLA.out, ← EQ.out, e0]; rfl)
                              go_wp2_with (at_builtin; refine app_txt rfl _ _ rfl rfl OV.out SB.out (pv) rfl LL.out ?_)
                              intro v6 w6 o6 hg6
                              have T6 := Lib.hid (TV.out.grown hg6 VB.out.1)
                              have Z6 := Lib.hid (ZV.out.grown hg6 VB.out.2.1)
                              have P6 := Lib.hid (PV.out.grown hg6 (fun x hx e => VB.out.2.2 x hx e))
                              have B6 := Lib.hid (BV.out.grown hg6 BV.out.size (fun x hx => VB3.out x hx))
                              have O6 : Hid (OwnS (tb + 1) w6 v6 (((svals P).take j).map bytesOf)) := Lib.hid (by
                                rw [svals_step P j hj1 (by rw [← HN.out]; exact hlt2), List.map_append, List.map_singleton, ← HN.out, ← ADJ.out (pv) TE.out]
                                first | exact o6 | (rw [List.map_take]; exact o6))
                              obtain ⟨a6, c6, e6, _, _⟩ := O6.out.shape
                              obtain ⟨m6, hm6⟩ : ∃ m6, m6 = (((svals P).take j).map bytesOf).length := ⟨_, rfl⟩
                              rw [← hm6] at e6
                              clear hm6
                              subst e6
                              obtain ⟨⟨z0, z1, z2⟩, zf1, zf2⟩ := T6.out
                              clear hg6 o6
                              go_wp2_with fail
                              go_roundg (n - (j + 1))
                              case measure => have := R.out; omega
                              case rel =>
                                refine ⟨j + 1, _, by omega, by omega, rfl, by go_num, T6.out.set2 _, ?_, ?_, ?_, ?_⟩
                                · exact O6.out.set_ne (p := ⟨tb, 2, none⟩) (fun e => by have := (O6.out.lt _ e).1; simp only at this; omega) _
                                · exact P6.out.set_ne (p := ⟨tb, 2, none⟩) (by intro e; injection e with e; have := BPT.out; simp only at e; omega) _
                                · exact Z6.out.set_ne (p := ⟨tb, 2, none⟩) (by have := WTB.out; simp only; omega) _
                                · exact B6.out.setCell (p := ⟨tb, 2, none⟩) (Nat.le_of_lt WTB.out) _
                          · have gl : ((j : Int) == (qn : Int)) = false := by rw [beq_eq_false_iff_ne]; omega
                            have HLA := Lib.hid hla
                            have TE : Hid ((pv).data.toList = adj n j (P.getD j [])) := Lib.hid (by rw [ADL.out.2 HLA.out, EQ.out])
                            go_wp2_with (at_builtin; refine app_txt rfl _ _ rfl rfl OV.out SB.out (pv) rfl LL.out ?_)
                            intro v6 w6 o6 hg6
                            have T6 := Lib.hid (TV.out.grown hg6 VB.out.1)
                            have Z6 := Lib.hid (ZV.out.grown hg6 VB.out.2.1)
                            have P6 := Lib.hid (PV.out.grown hg6 (fun x hx e => VB.out.2.2 x hx e))
                            have B6 := Lib.hid (BV.out.grown hg6 BV.out.size (fun x hx => VB3.out x hx))
                            have O6 : Hid (OwnS (tb + 1) w6 v6 (((svals P).take j).map bytesOf)) := Lib.hid (by
                              rw [svals_step P j hj1 (by rw [← HN.out]; exact hlt2), List.map_append, List.map_singleton, ← HN.out, ← ADJ.out (pv) TE.out]
                              first | exact o6 | (rw [List.map_take]; exact o6))
                            obtain ⟨a6, c6, e6, _, _⟩ := O6.out.shape
                            obtain ⟨m6, hm6⟩ : ∃ m6, m6 = (((svals P).take j).map bytesOf).length := ⟨_, rfl⟩
                            rw [← hm6] at e6
                            clear hm6
                            subst e6
                            obtain ⟨⟨z0, z1, z2⟩, zf1, zf2⟩ := T6.out
                            clear hg6 o6
                            go_wp2_with fail
                            go_roundg (n - (j + 1))
                            case measure => have := R.out; omega
                            case rel =>
                              refine ⟨j + 1, _, by omega, by omega, rfl, by go_num, T6.out.set2 _, ?_, ?_, ?_, ?_⟩
                              · exact O6.out.set_ne (p := ⟨tb, 2, none⟩) (fun e => by have := (O6.out.lt _ e).1; simp only at this; omega) _
                              · exact P6.out.set_ne (p := ⟨tb, 2, none⟩) (by intro e; injection e with e; have := BPT.out; simp only at e; omega) _
                              · exact Z6.out.set_ne (p := ⟨tb, 2, none⟩) (by have := WTB.out; simp only; omega) _
                              · exact B6.out.setCell (p := ⟨tb, 2, none⟩) (Nat.le_of_lt WTB.out) _
                      · have gj : ((j : Int) == 1) = false := by rw [beq_eq_false_iff_ne]; omega
                        have EQ : Hid (pv.data.toList = if j = 1 then (P.getD j []).drop 1 else P.getD j []) := Lib.hid (by rw [if_neg hj, PVD.out])
                        clear hj
                        by_cases hla : j = n - 1
                        · have gl : ((j : Int) == (qn : Int)) = true := by rw [beq_iff_eq]; omega
                          have gl3 : ((j : Int) == ((n - 1 : Nat) : Int)) = true := by rw [beq_iff_eq]; omega
                          have HLA := Lib.hid hla
                          clear hla
                          by_cases hv1 : 0 < pv.size
                          · have gv : decide ((pv.size : Int) > 0) = true := decide_eq_true (by omega)
                            have gv2 : decide (0 < pv.size) = true := decide_eq_true hv1
                            obtain ⟨zz, hzz⟩ : ∃ zz, zz = pv.size - 1 := ⟨_, rfl⟩
                            have ez : ((pv.size : Int) - 1) = (zz : Int) := by omega
                            have hzl : zz ≤ pv.size := by omega
                            have TE : Hid ((pv.extract 0 zz).data.toList = adj n j (P.getD j [])) := Lib.hid (by
                              rw [ext_take, ADL.out.1 HLA.out, hzz, ← slen, ← List.dropLast_eq_take, EQ.out])
                            clear hzz
                            go_wp2_with (at_builtin; refine app_txt rfl _ _ rfl rfl OV.out SB.out ((pv.extract 0 zz)) rfl LL.out ?_)
                            intro v6 w6 o6 hg6
                            have T6 := Lib.hid (TV.out.grown hg6 VB.out.1)
                            have Z6 := Lib.hid (ZV.out.grown hg6 VB.out.2.1)
                            have P6 := Lib.hid (PV.out.grown hg6 (fun x hx e => VB.out.2.2 x hx e))
                            have B6 := Lib.hid (BV.out.grown hg6 BV.out.size (fun x hx => VB3.out x hx))
                            have O6 : Hid (OwnS (tb + 1) w6 v6 (((svals P).take j).map bytesOf)) := Lib.hid (by
                              rw [svals_step P j hj1 (by rw [← HN.out]; exact hlt2), List.map_append, List.map_singleton, ← HN.out, ← ADJ.out ((pv.extract 0 zz)) TE.out]
                              first | exact o6 | (rw [List.map_take]; exact o6))
                            obtain ⟨a6, c6, e6, _, _⟩ := O6.out.shape
                            obtain ⟨m6, hm6⟩ : ∃ m6, m6 = (((svals P).take j).map bytesOf).length := ⟨_, rfl⟩
                            rw [← hm6] at e6
                            clear hm6
                            subst e6
                            obtain ⟨⟨z0, z1, z2⟩, zf1, zf2⟩ := T6.out
                            clear hg6 o6
                            go_wp2_with fail
                            go_roundg (n - (j + 1))
                            case measure => have := R.out; omega
                            case rel =>
                              refine ⟨j + 1, _, by omega, by omega, rfl, by go_num, T6.out.set2 _, ?_, ?_, ?_, ?_⟩
                              · exact O6.out.set_ne (p := ⟨tb, 2, none⟩) (fun e => by have := (O6.out.lt _ e).1; simp only at this; omega) _
                              · exact P6.out.set_ne (p := ⟨tb, 2, none⟩) (by intro e; injection e with e; have := BPT.out; simp only at e; omega) _
                              · exact Z6.out.set_ne (p := ⟨tb, 2, none⟩) (by have := WTB.out; simp only; omega) _
                              · exact B6.out.setCell (p := ⟨tb, 2, none⟩) (Nat.le_of_lt WTB.out) _
                          · have gv : decide ((pv.size : Int) > 0) = false := decide_eq_false (by omega)
                            have gv2 : decide (0 < pv.size) = false := decide_eq_false hv1
                            have TE : Hid ((pv).data.toList = adj n j (P.getD j [])) := Lib.hid (by
                              have e0 : (pv).data.toList = [] := List.length_eq_zero_iff.1 (by rw [slen]; omega)
                              rw [ADL.out.1 HLA.out, ← EQ.out, e0]; rfl)
                            go_wp2_with (at_builtin; refine app_txt rfl _ _ rfl rfl OV.out SB.out (pv) rfl LL.out ?_)
                            intro v6 w6 o6 hg6
                            have T6 := Lib.hid (TV.out.grown hg6 VB.out.1)
                            have Z6 := Lib.hid (ZV.out.grown hg6 VB.out.2.1)
                            have P6 := Lib.hid (PV.out.grown hg6 (fun x hx e => VB.out.2.2 x hx e))
                            have B6 := Lib.hid (BV.out.grown hg6 BV.out.size (fun x hx => VB3.out x hx))
                            have O6 : Hid (OwnS (tb + 1) w6 v6 (((svals P).take j).map bytesOf)) := Lib.hid (by
                              rw [svals_step P j hj1 (by rw [← HN.out]; exact hlt2), List.map_append, List.map_singleton, ← HN.out, ← ADJ.out (pv) TE.out]
                              first | exact o6 | (rw [List.map_take]; exact o6))
                            obtain ⟨a6, c6, e6, _, _⟩ := O6.out.shape
                            obtain ⟨m6, hm6⟩ : ∃ m6, m6 = (((svals P).take j).map bytesOf).length := ⟨_, rfl⟩
                            rw [← hm6] at e6
                            clear hm6
                            subst e6
                            obtain ⟨⟨z0, z1, z2⟩, zf1, zf2⟩ := T6.out
                            clear hg6 o6
                            go_wp2_with fail
                            go_roundg (n - (j + 1))
                            case measure => have := R.out; omega
                            case rel =>
                              refine ⟨j + 1, _, by omega, by omega, rfl, by go_num, T6.out.set2 _, ?_, ?_, ?_, ?_⟩
                              · exact O6.out.set_ne (p := ⟨tb, 2, none⟩) (fun e => by have := (O6.out.lt _ e).1; simp only at this; omega) _
                              · exact P6.out.set_ne (p := ⟨tb, 2, none⟩) (by intro e; injection e with e; have := BPT.out; simp only at e; omega) _
                              · exact Z6.out.set_ne (p := ⟨tb, 2, none⟩) (by have := WTB.out; simp only; omega) _
                              · exact B6.out.setCell (p := ⟨tb, 2, none⟩) (Nat.le_of_lt WTB.out) _
                        · have gl : ((j : Int) == (qn : Int)) = false := by rw [beq_eq_false_iff_ne]; omega
                          have HLA := Lib.hid hla
                          have TE : Hid ((pv).data.toList = adj n j (P.getD j [])) := Lib.hid (by rw [ADL.out.2 HLA.out, EQ.out])
                          go_wp2_with (at_builtin; refine app_txt rfl _ _ rfl rfl OV.out SB.out (pv) rfl LL.out ?_)
                          intro v6 w6 o6 hg6
                          have T6 := Lib.hid (TV.out.grown hg6 VB.out.1)
                          have Z6 := Lib.hid (ZV.out.grown hg6 VB.out.2.1)
                          have P6 := Lib.hid (PV.out.grown hg6 (fun x hx e => VB.out.2.2 x hx e))
                          have B6 := Lib.hid (BV.out.grown hg6 BV.out.size (fun x hx => VB3.out x hx))
                          have O6 : Hid (OwnS (tb + 1) w6 v6 (((svals P).take j).map bytesOf)) := Lib.hid (by
                            rw [svals_step P j hj1 (by rw [← HN.out]; exact hlt2), List.map_append, List.map_singleton, ← HN.out, ← ADJ.out (pv) TE.out]
                            first | exact o6 | (rw [List.map_take]; exact o6))
                          obtain ⟨a6, c6, e6, _, _⟩ := O6.out.shape
                          obtain ⟨m6, hm6⟩ : ∃ m6, m6 = (((svals P).take j).map bytesOf).length := ⟨_, rfl⟩
                          rw [← hm6] at e6
                          clear hm6
                          subst e6
                          obtain ⟨⟨z0, z1, z2⟩, zf1, zf2⟩ := T6.out
                          clear hg6 o6
                          go_wp2_with fail
                          go_roundg (n - (j + 1))
                          case measure => have := R.out; omega
                          case rel =>
                            refine ⟨j + 1, _, by omega, by omega, rfl, by go_num, T6.out.set2 _, ?_, ?_, ?_, ?_⟩
                            · exact O6.out.set_ne (p := ⟨tb, 2, none⟩) (fun e => by have := (O6.out.lt _ e).1; simp only at this; omega) _
                            · exact P6.out.set_ne (p := ⟨tb, 2, none⟩) (by intro e; injection e with e; have := BPT.out; simp only at e; omega) _
                            · exact Z6.out.set_ne (p := ⟨tb, 2, none⟩) (by have := WTB.out; simp only; omega) _
                            · exact B6.out.setCell (p := ⟨tb, 2, none⟩) (Nat.le_of_lt WTB.out) _
                    · have hge : decide ((j : Int) < (n : Int)) = false := decide_eq_false (by omega)
                      have ej : j = n := by omega
                      obtain ⟨⟨k0, k1, k2⟩, f0, f1, f2⟩ := ZV.out
                      have OF : Hid (OwnS (tb + 1) wr (.slice av mv cv) ((svals P).map bytesOf)) := Lib.hid (by
                        have h := OV.out
                        rw [List.take_of_length_le (by rw [svals_len, ← HN.out]; omega)] at h
                        exact h)
                      go_wp2_with fail
                      refine bodyPost_ret (v := .agg #[.string (s.extract 0 k), .int .i64 1, .slice av mv cv]) ?_ rfl ?_
                      · rw [results_one rfl]
                        go_simp
                      · rw [hr2.out]
                        exact ⟨⟨⟨s.extract 0 k, 1, .slice av mv cv, (svals P).map bytesOf⟩, rfl, by unfold t3; simp only [map_bytes], (own_three OF.out (by have := WTB.out; omega) _ _ _).mono (by have := WTB.out; omega), by
                          intro t ht
                          obtain ⟨u, hu, rfl⟩ := List.mem_map.1 ht
                          have := svals_small P 1048576 PZ.out u hu
                          rw [← slen]
                          simpa [bytesOf] using this⟩, below_three BV.out (Nat.le_refl _) _ _ _⟩
                · exact absurd HWH.out (by rw [hr.out, if_neg hnot]; show ¬ (0 : Int) = 1; decide)
              · have g32 : (((s[k]'hlt).toNat : Int) == 32) = false := by
                  rw [beq_eq_false_iff_ne, ← hc]
                  intro h
                  exact c32 (UInt8.toNat_inj.1 (by show c.toNat = 32; omega))
                have NX := Lib.hid (cont.out c32 (fun h => c33 h.1))
                clear c32 c33 hc
                go_wp2_with fail
                go_roundg (s.size - (k + 1))
                case measure => have := R.out.1; omega
                case rel => exact ⟨k + 1, by omega, rfl, by go_num, NX.out, rfl⟩
        · have hge : decide ((k : Int) < (s.size : Int)) = false := decide_eq_false (by omega)
          have hr : Hid (rr s.data.toList = ⟨s.data.toList, 2, []⟩) := Lib.hid (by
            rw [R.out.2, List.drop_of_length_le (by rw [slen]; omega), List.take_of_length_le (by rw [slen]; omega)]
            rfl)
          go_wp2_with fail
          refine bodyPost_ret (v := .agg #[.string s, .int .i64 2, .slice none 0 0]) ?_ rfl ?_
          · rw [results_one rfl]
            go_simp
          · rw [hr.out]
            exact ⟨⟨⟨s, 2, .slice none 0 0, []⟩, rfl, rfl, World.ownsRow_nil _ _ _ _, by simp⟩, below_three A1.out (Nat.le_refl _) _ _ _⟩
    · have hz' : decide (0 < s.size) = false := decide_eq_false hz
      have hs0 : s.size = 0 := by omega
      have hnil : s.data.toList = [] := List.length_eq_zero_iff.1 (by rw [slen]; exact hs0)
      have hr : Hid (rr s.data.toList = ⟨s.data.toList, 2, []⟩) := Lib.hid (by rw [hnil]; rfl)
      clear hp hstart hnil
      go_enter Tryd.func41, Tryd.ntmps41
      go_wp2_with fail
      refine wp_loop_rounds 1 ?_
      rw [rounds_succ]
      go_wp2_with fail
      refine bodyPost_ret (v := .agg #[.string s, .int .i64 2, .slice none 0 0]) ?_ rfl ?_
      · rw [results_one rfl]
        go_simp
      · rw [hr.out]
        exact ⟨⟨⟨s, 2, .slice none 0 0, []⟩, rfl, rfl, World.ownsRow_nil _ _ _ _, by simp⟩, below_three A1.out (Nat.le_refl _) _ _ _⟩
end Go.Proofs.YthbbdhhkamccbaaDoor
