/-
  THE DOCUMENTS READER: Text, NewReader.
-/
import Derived.Test.YtmdjicakjljmlaaRefR3
namespace Go.Proofs.Ytmdjicakjljmlaa
open Go.RowKit

theorem text_bad (s : RS) (most : Int) (e : Nat) (h : (s.upTo most).2.2 = e) (he : ¬ e = 0) : s.text most = ([], ⟨s.l, e⟩) := by
  unfold RS.text; rw [h, if_neg he]
set_option maxHeartbeats 4000000 in
set_option maxRecDepth 100000 in
theorem yText_any (g : Nat) (v0 : Value) (b : List UInt8) (most : Int) (s : RS) (w : World) (h1 : -9223372036854775808 ≤ most) (h2 : most < 9223372036854775808) (H : YAt w g v0 b s) :
    Calls Try.prog 27 #[.pointer (some ⟨g, 0, none⟩), .int .i64 most] w fun e w' => e = .returned (.string (txt (s.text most).1)) ∧ ReadY g v0 b (s.text most).2 w w' := by
  have V : Aside (YAt w g v0 b s) := H
  obtain ⟨a, cap, k, _, _, hb, hk, hl, c0, c1, c2, f1, f2⟩ := H.cells
  have K : Aside (k ≤ b.length ∧ s.l = b.drop k) := ⟨hk, hl⟩
  clear H hb c0 c2 f1 f2 hk hl
  have N := num_lt s.l
  go_enter Try.func27, Try.ntmps27
  go_wp2_with fail
  refine (yUint_any g v0 b s w V.out).mono ?_
  rintro e w1 ⟨rfl, hr⟩
  obtain ⟨a1, cap1, k1, q1, q2, qb, qk, ql, d0, d1, d2, g1, g2⟩ := hr.1.cells
  unfold maxLen at q2
  by_cases he : s.e = 0
  · rw [uint_num s he] at hr d2 ql ⊢
    simp only at ql
    have UP : Aside (s.upTo most = if (num s.l 0).2.2 = 0 then (if most < 0 ∨ most < (num s.l 0).1 then (0, 0, 23) else num s.l 0) else (0, 0, (num s.l 0).2.2)) := by unfold RS.upTo; rw [if_pos he]; rfl
    have NE : Aside (¬ (num s.l 0).2.2 = 0 → num s.l 0 = (0, 0, (num s.l 0).2.2)) := num_err s.l 0
    obtain ⟨r, hrr⟩ : ∃ r, r = num s.l 0 := ⟨_, rfl⟩
    rw [← hrr] at hr d2 N UP NE ql ⊢
    have R : Aside (ReadY g v0 b ⟨s.l.drop r.2.1, r.2.2⟩ w w1) := hr
    have Q : Aside (s.l.drop r.2.1 = b.drop k1 ∧ Bytes w1 (.slice a1 b.length cap1) b) := ⟨ql, qb⟩
    have LN : Aside (s.l.length - r.2.1 = b.length - k1) := by have := congrArg List.length ql; rw [List.length_drop, List.length_drop] at this; exact this
    obtain ⟨n1, n2, n3, n4⟩ := N
    clear hr hrr he ql qb
    by_cases hz : r.2.2 = 0
    · rw [if_pos hz] at UP
      simp only [hz] at d2 R
      have Z : Aside (r.2.2 = 0) := hz
      clear hz NE
      by_cases hm : most < 0
      · have T : Aside (s.text most = ([], ⟨s.l, 23⟩)) := by
          have := UP.out; rw [if_pos (Or.inl hm)] at this
          exact text_bad s most 23 (by rw [this]) (by decide)
        go_wp2_with fail
        go_quiet (fail)
        go_wp2_with fail
        go_ret
        rw [T.out]
        refine ⟨rfl, ?_⟩
        have h := ((R.out.code 23 (by decide)).drewN nq).at (n := k) k rfl K.out.1
        rw [← K.out.2] at h
        exact h
      · have hm' : ¬ most < 0 := hm
        have hm2 : decide (most < 0) = false := by rw [decide_eq_false_iff_not]; exact hm
        obtain ⟨m, rfl⟩ : ∃ m : Nat, most = m := ⟨most.toNat, by omega⟩
        by_cases hb1 : m < r.1
        · have T : Aside (s.text m = ([], ⟨s.l, 23⟩)) := by
            have := UP.out; rw [if_pos (Or.inr (by omega))] at this
            exact text_bad s m 23 (by rw [this]) (by decide)
          have hb1' : ((m : Int) < (r.1 : Int)) := by omega
          go_wp2_with fail
          go_quiet (fail)
          go_wp2_with fail
          go_ret
          rw [T.out]
          refine ⟨rfl, ?_⟩
          have h := ((R.out.code 23 (by decide)).drewN nq).at (n := k) k rfl K.out.1
          rw [← K.out.2] at h
          exact h
        · have hb1' : decide ((m : Int) < (r.1 : Int)) = false := by rw [decide_eq_false_iff_not]; omega
          have hb2' : decide (m < r.1) = false := by rw [decide_eq_false_iff_not]; exact hb1
          have UP' : Aside (s.upTo m = r) := by have := UP.out; rw [if_neg (by omega)] at this; exact this
          by_cases hfit : r.1 ≤ b.length - k1
          · have T : Aside (s.text m = ((b.drop k1).take r.1, ⟨b.drop (k1 + r.1), 0⟩)) := by
              show _ = _
              unfold RS.text; rw [UP'.out, if_pos Z.out, if_pos (by have := LN.out; omega), Q.out.1, ← List.drop_drop, Q.out.1, List.drop_drop]
            have hfit1 : ¬ ((r.1 : Int) > (b.length : Int) - (k1 : Int)) := by omega
            have hfit2 : decide ((b.length : Int) - (k1 : Int) < (r.1 : Int)) = false := by rw [decide_eq_false_iff_not]; omega
            go_wp2_with fail
            go_quiet (fail)
            go_wp2_with fail
            have R2 : Aside (ReadY g v0 b ⟨b.drop (k1 + r.1), 0⟩ w ((w1.drewN nq).setCell ⟨g, 1, none⟩ (.int .i64 ((k1 : Int) + (r.1 : Int))))) := (R.out.drewN nq).at (k1 + r.1) (by omega) (by omega)
            have sw1 : IntKind.i64.wrap (r.1 : Int) = r.1 := by rw [IntKind.wrap_i64]; omega
            have sw2 : IntKind.i64.wrap ((k1 : Int) + (r.1 : Int) - (r.1 : Int)) = k1 := by rw [IntKind.wrap_i64]; omega
            have sw3 : IntKind.i64.wrap (k1 : Int) = k1 := by rw [IntKind.wrap_i64]; omega
            obtain ⟨wx, hwx⟩ : ∃ wx, wx = (w1.drewN nq).setCell ⟨g, 1, none⟩ (.int .i64 ((k1 : Int) + (r.1 : Int))) := ⟨_, rfl⟩
            have bx : Bytes wx (.slice a1 b.length cap1) b := by
              rw [hwx]
              exact (Q.out.2.drewN nq).kept (kept_set (F := fun k => k = g) _ ⟨g, 1, none⟩ _ rfl) (R.out.drewN nq).1.no8
            have hcv : ∀ n, (convert 44 9 (.slice (if cap1 = k1 then a1 else Option.map (fun x : Addr => x.add k1) a1) r.1 (cap1 - k1))).run Try.prog (wx.drewN n) = .ok (.string (txt ((b.drop k1).take r.1))) (wx.drewN n) := by
              intro n
              refine convT (Bytes.drewN ?_ n)
              split
              · rw [show cap1 - k1 = 0 by omega]
                exact (Bytes.none_left (n := b.length - k1) (by omega) (List.drop_eq_nil_of_le (by omega))).take' r.1 hfit
              · exact (bx.drop k1 qk).take' r.1 hfit
            rw [hwx] at hcv
            clear hwx bx
            go_quiet (fail)
            clear hcv sw1 sw2 sw3
            generalize Value.slice (if cap1 = k1 then a1 else Option.map (fun x => x.add k1) a1) (k1 + r.1 - k1) (cap1 - k1) = vv
            clear q1 q2 d0 d1 d2 g1 g2 hfit1 hfit2 hb1' hb2' hm2 c1
            go_wp2_with fail
            go_ret
            rw [T.out]
            exact ⟨rfl, R2.out.drewN _⟩
          · have T : Aside (s.text m = ([], ⟨s.l, 20⟩)) := by
              show _ = _
              unfold RS.text; rw [UP'.out, if_pos Z.out, if_neg (by have := LN.out; omega)]
            have hfit1 : ((r.1 : Int) > (b.length : Int) - (k1 : Int)) := by omega
            go_wp2_with fail
            go_quiet (fail)
            go_wp2_with fail
            go_ret
            rw [T.out]
            refine ⟨rfl, ?_⟩
            have h := ((R.out.drewN nq).code 20 (by decide)).at (n := k) k rfl K.out.1
            rw [← K.out.2] at h
            exact h
    · have NE' := NE.out hz
      rw [if_neg hz] at UP
      have T : Aside (s.text most = ([], ⟨s.l, r.2.2⟩)) := text_bad s most r.2.2 (by rw [UP.out]) hz
      have e1 : r.1 = 0 := by rw [NE']
      have e2 : r.2.1 = 0 := by rw [NE']
      rw [e1]
      have R2 : Aside (ReadY g v0 b ⟨s.l, r.2.2⟩ w w1) := by have h := R.out; rw [e2, List.drop_zero] at h; exact h
      have hz' : ¬ (r.2.2 : Int) = 0 := by omega
      have hz2 : ((r.2.2 : Int) == 0) = false := by rw [beq_eq_false_iff_ne]; omega
      clear e1 e2 NE' NE hz
      go_wp2_with fail
      go_quiet (fail)
      go_wp2_with fail
      go_ret
      rw [T.out]
      refine ⟨rfl, ?_⟩
      have h := (R2.out.drewN nq).at (n := k) k rfl K.out.1
      rw [← K.out.2] at h
      exact h
  · have U2 : s.uint = (0, s) := by unfold RS.uint; rw [if_neg he]
    rw [U2] at hr d2 ⊢
    have R : Aside (ReadY g v0 b s w w1) := hr
    have T : Aside (s.text most = ([], ⟨s.l, s.e⟩)) := text_bad s most s.e (by unfold RS.upTo; rw [if_neg he]) he
    have he' : ¬ (s.e : Int) = 0 := by omega
    have he2 : ((s.e : Int) == 0) = false := by rw [beq_eq_false_iff_ne]; omega
    clear hr U2 he
    go_wp2_with fail
    go_quiet (fail)
    go_wp2_with fail
    go_ret
    rw [T.out]
    refine ⟨rfl, ?_⟩
    have h := (R.out.drewN nq).at (n := k) k rfl K.out.1
    rw [← K.out.2] at h
    exact h
end Go.Proofs.Ytmdjicakjljmlaa
