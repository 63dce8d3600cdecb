/-
  The statements' own: turned.
-/
import Derived.Test.YthjekiddjldehaaAuB
namespace Go.Proofs.Ythjekiddjldehaa
open Go.RowKit Go.Maps
set_option maxRecDepth 100000 in
set_option maxHeartbeats 4000000 in
theorem turned_any (v : Value) (l : List UInt8) (at' : Int) (x : BitVec 32) (w : World) (hv : Bytes w v l) (hl : l.length = 512) (_ha : -9223372036854775808 ≤ at' ∧ at' < 9223372036854775808) :
    Calls Try.prog 17 #[v, .int .i64 at', .int .u32 (Sm.u x)] w fun e w' => ∃ v' c n, e = .returned (.tuple #[v', .int .i64 ((n : Nat) : Int)]) ∧ Own w.heap.size w' v' c ∧ c.length = 512 ∧ (0 < n → SumOk l → ¬ SumOk c) ∧ Below w.heap.size w w' := by
  have OW := Lib.hid (ownW_any v l w hv (by omega))
  obtain ⟨av, cv, ev, _⟩ := hv.len
  rw [hl] at ev
  subst ev
  have HL := Lib.hid hl
  clear hv hl
  go_enter Try.func17, Try.ntmps17
  go_wp2_with fail
  refine OW.out.mono ?_
  rintro _ w1 ⟨v1, rfl, o1, b1⟩
  have O1 := Lib.hid o1
  have B1 := Lib.hid b1
  obtain ⟨g, cap, hv1, hcap, hmx⟩ : ∃ g cap, v1 = .slice (some ⟨g, 0, none⟩) 512 cap ∧ 512 ≤ cap ∧ cap ≤ 9223372036854775807 := by
    obtain ⟨_, ⟨_, hn⟩ | ⟨g', cap', cur, hv, hB, hg', hnc, hm, _⟩⟩ := o1
    · rw [HL.out] at hn; omega
    · rw [HL.out] at hv hnc; exact ⟨g', cap', hv, hnc, by unfold maxLen at hm; omega⟩
  subst hv1
  clear o1 b1 OW
  by_cases ha0 : at' < 0
  · have g1 : decide (at' < 0) = true := decide_eq_true ha0
    go_wp2_with fail
    go_ret2
    exact ⟨_, l, 0, rfl, O1.out, HL.out, fun h => by omega, B1.out⟩
  · have g1 : decide (at' < 0) = false := decide_eq_false ha0
    by_cases ha1 : 4096 ≤ at'
    · have g2 : decide (at' ≥ 4096) = true := decide_eq_true ha1
      go_wp2_with fail
      go_ret2
      exact ⟨_, l, 0, rfl, O1.out, HL.out, fun h => by omega, B1.out⟩
    · have g2 : decide (at' ≥ 4096) = false := decide_eq_false ha1
      obtain ⟨a, ha⟩ : ∃ a : Nat, at' = (a : Int) := ⟨at'.toNat, by omega⟩
      subst ha
      have haN : a < 4096 := by omega
      go_wp2_with fail
      go_loopg [9, 10, 11] 32 (fun q sn ss si wr => ∃ (i n st : Nat) (c : List UInt8), i ≤ 32 ∧ q = 32 - i ∧ si = .int .i64 i ∧ sn = .int .i64 n ∧ ss = .int .i64 st ∧ n ≤ i ∧ Own w.heap.size wr (.slice (some ⟨g, 0, none⟩) 512 cap) c ∧ Tn l c a i n st ∧ Below w.heap.size w wr)
      case atStart => exact ⟨0, 0, 0, l, by omega, rfl, rfl, rfl, rfl, by omega, O1.out, Tn.start l a HL.out, B1.out⟩
      case round =>
        obtain ⟨i, n, st, c, hi, hq, rfl, rfl, rfl, hni, ho, ht, hb⟩ := hrel
        have O := Lib.hid ho
        have T := Lib.hid ht
        have Bl := Lib.hid hb
        have G := Lib.hid hq
        have hs3 : st ≤ 3 := ht.s3
        clear ho ht hb hq O1 B1
        by_cases hlt : i < 32
        · have q0 : (i : Int) < 32 := by omega
          obtain ⟨k, hk⟩ : ∃ k : Nat, k = a + i := ⟨_, rfl⟩
          have ek : (a : Int) + (i : Int) = (k : Int) := by omega
          have KK := Lib.hid hk
          have hk2 : k < 4128 := by omega
          clear hk
          by_cases hm : (bits .and .u32 (Sm.u x / 2 ^ i) 1 == 0) = true
          · have hm0 := hm
            go_wp2_with fail
            go_roundg (32 - (i + 1))
            case measure => have := G.out; omega
            case rel => exact ⟨i + 1, n, st, c, by omega, rfl, by go_num, rfl, rfl, by omega, O.out, T.out.keep, Bl.out⟩
          · have hm0 : (bits .and .u32 (Sm.u x / 2 ^ i) 1 == 0) = false := Bool.eq_false_iff.2 hm
            clear hm
            by_cases hk4 : 4096 ≤ k
            · have f1 : decide ((k : Int) ≥ 4096) = true := decide_eq_true (by omega)
              go_wp2_with fail
              go_roundg (32 - (i + 1))
              case measure => have := G.out; omega
              case rel => exact ⟨i + 1, n, st, c, by omega, rfl, by go_num, rfl, rfl, by omega, O.out, T.out.keep, Bl.out⟩
            · have f1 : decide ((k : Int) ≥ 4096) = false := decide_eq_false (by omega)
              by_cases h3 : 4032 ≤ k
              · have f2 : decide ((k : Int) ≥ 4000) = true := decide_eq_true (by omega)
                have f3 : decide ((k : Int) ≥ 4032) = true := decide_eq_true (by omega)
                by_cases hs0 : st = 0
                · have f4 : ((st : Int) == 0) = true := by rw [hs0]; rfl
                  obtain ⟨q, hq⟩ : ∃ q, q = k / 8 := ⟨_, rfl⟩
                  obtain ⟨r, hr⟩ : ∃ r, r = k % 8 := ⟨_, rfl⟩
                  have q1 : (k : Int) / 8 = (q : Int) := by omega
                  have r1 : (k : Int) % 8 = (r : Int) := by omega
                  have q2 : (q : Int) < 512 := by omega
                  have r2 : r < 8 := by omega
                  have cl := T.out.len
                  have hB : w.heap.size ≤ g := (O.out.lt g rfl).1
                  have ho' : wr.ownsRow w.heap.size 5 1 (.slice (some ⟨g, 0, none⟩) 512 cap) 512 (cells8 c) := by have := O.out; unfold Own at this; rw [cl] at this; exact this
                  have hcell : wr.cell? ⟨g, q, none⟩ = some (.int .u8 (c8 (c.getD q 0))) := by rw [ho'.cellAt q (by omega), cells8_at (by omega)]
                  have hfro : wr.frozen? ⟨g, q, none⟩ = false := ho'.frozenAt q
                  obtain ⟨y, hy⟩ : ∃ y, y = c.getD q 0 := ⟨_, rfl⟩
                  rw [← hy] at hcell
                  have NT : Hid (Tn l (c.set q (tuB y r)) a (i + 1) (n + 1) 3) := Lib.hid (by
                    have := T.out.turn hlt (by have := KK.out; omega) (Or.inl hs0)
                    rw [← KK.out, show stB k = 3 by unfold stB; rw [if_pos (by omega)], ← hq, ← hr, ← hy] at this
                    exact this)
                  have HB := Lib.hid hB
                  clear hq hr hy ho' cl hB
                  go_wp2_with fail
                  go_region
                  go_wp2_with fail
                  go_roundg (32 - (i + 1))
                  case measure => have := G.out; omega
                  case rel =>
                    refine ⟨i + 1, n + 1, 3, c.set q (tuB y r), by omega, rfl, by go_num, by go_num, by first | rfl | rw [hs1] | go_num, by omega, ?_, NT.out, (Bl.out.setCell HB.out _).drew⟩
                    rw [tu_c8 y r r2]; exact own_put8 O.out q _
                · have f4 : ((st : Int) == 0) = false := by rw [beq_eq_false_iff_ne]; omega
                  by_cases hs1 : st = 3
                  · have f5 : ((3 : Int) == (st : Int)) = true := by rw [hs1]; rfl
                    obtain ⟨q, hq⟩ : ∃ q, q = k / 8 := ⟨_, rfl⟩
                    obtain ⟨r, hr⟩ : ∃ r, r = k % 8 := ⟨_, rfl⟩
                    have q1 : (k : Int) / 8 = (q : Int) := by omega
                    have r1 : (k : Int) % 8 = (r : Int) := by omega
                    have q2 : (q : Int) < 512 := by omega
                    have r2 : r < 8 := by omega
                    have cl := T.out.len
                    have hB : w.heap.size ≤ g := (O.out.lt g rfl).1
                    have ho' : wr.ownsRow w.heap.size 5 1 (.slice (some ⟨g, 0, none⟩) 512 cap) 512 (cells8 c) := by have := O.out; unfold Own at this; rw [cl] at this; exact this
                    have hcell : wr.cell? ⟨g, q, none⟩ = some (.int .u8 (c8 (c.getD q 0))) := by rw [ho'.cellAt q (by omega), cells8_at (by omega)]
                    have hfro : wr.frozen? ⟨g, q, none⟩ = false := ho'.frozenAt q
                    obtain ⟨y, hy⟩ : ∃ y, y = c.getD q 0 := ⟨_, rfl⟩
                    rw [← hy] at hcell
                    have NT : Hid (Tn l (c.set q (tuB y r)) a (i + 1) (n + 1) 3) := Lib.hid (by
                      have := T.out.turn hlt (by have := KK.out; omega) (Or.inr (by rw [← KK.out, hs1]; unfold stB; rw [if_pos (by omega)]))
                      rw [← KK.out, show stB k = 3 by unfold stB; rw [if_pos (by omega)], ← hq, ← hr, ← hy] at this
                      exact this)
                    have HB := Lib.hid hB
                    clear hq hr hy ho' cl hB
                    go_wp2_with fail
                    go_region
                    go_wp2_with fail
                    go_roundg (32 - (i + 1))
                    case measure => have := G.out; omega
                    case rel =>
                      refine ⟨i + 1, n + 1, 3, c.set q (tuB y r), by omega, rfl, by go_num, by go_num, by first | rfl | rw [hs1] | go_num, by omega, ?_, NT.out, (Bl.out.setCell HB.out _).drew⟩
                      rw [tu_c8 y r r2]; exact own_put8 O.out q _
                  · have f5 : ((3 : Int) == (st : Int)) = false := by rw [beq_eq_false_iff_ne]; omega
                    go_wp2_with fail
                    go_roundg (32 - (i + 1))
                    case measure => have := G.out; omega
                    case rel => exact ⟨i + 1, n, st, c, by omega, rfl, by go_num, rfl, rfl, by omega, O.out, T.out.keep, Bl.out⟩
              · have f3 : decide ((k : Int) ≥ 4032) = false := decide_eq_false (by omega)
                by_cases h2 : 4000 ≤ k
                · have f2 : decide ((k : Int) ≥ 4000) = true := decide_eq_true (by omega)
                  by_cases hs0 : st = 0
                  · have f4 : ((st : Int) == 0) = true := by rw [hs0]; rfl
                    obtain ⟨q, hq⟩ : ∃ q, q = k / 8 := ⟨_, rfl⟩
                    obtain ⟨r, hr⟩ : ∃ r, r = k % 8 := ⟨_, rfl⟩
                    have q1 : (k : Int) / 8 = (q : Int) := by omega
                    have r1 : (k : Int) % 8 = (r : Int) := by omega
                    have q2 : (q : Int) < 512 := by omega
                    have r2 : r < 8 := by omega
                    have cl := T.out.len
                    have hB : w.heap.size ≤ g := (O.out.lt g rfl).1
                    have ho' : wr.ownsRow w.heap.size 5 1 (.slice (some ⟨g, 0, none⟩) 512 cap) 512 (cells8 c) := by have := O.out; unfold Own at this; rw [cl] at this; exact this
                    have hcell : wr.cell? ⟨g, q, none⟩ = some (.int .u8 (c8 (c.getD q 0))) := by rw [ho'.cellAt q (by omega), cells8_at (by omega)]
                    have hfro : wr.frozen? ⟨g, q, none⟩ = false := ho'.frozenAt q
                    obtain ⟨y, hy⟩ : ∃ y, y = c.getD q 0 := ⟨_, rfl⟩
                    rw [← hy] at hcell
                    have NT : Hid (Tn l (c.set q (tuB y r)) a (i + 1) (n + 1) 2) := Lib.hid (by
                      have := T.out.turn hlt (by have := KK.out; omega) (Or.inl hs0)
                      rw [← KK.out, show stB k = 2 by unfold stB; rw [if_neg (by omega), if_pos (by omega)], ← hq, ← hr, ← hy] at this
                      exact this)
                    have HB := Lib.hid hB
                    clear hq hr hy ho' cl hB
                    go_wp2_with fail
                    go_region
                    go_wp2_with fail
                    go_roundg (32 - (i + 1))
                    case measure => have := G.out; omega
                    case rel =>
                      refine ⟨i + 1, n + 1, 2, c.set q (tuB y r), by omega, rfl, by go_num, by go_num, by first | rfl | rw [hs1] | go_num, by omega, ?_, NT.out, (Bl.out.setCell HB.out _).drew⟩
                      rw [tu_c8 y r r2]; exact own_put8 O.out q _
                  · have f4 : ((st : Int) == 0) = false := by rw [beq_eq_false_iff_ne]; omega
                    by_cases hs1 : st = 2
                    · have f5 : ((2 : Int) == (st : Int)) = true := by rw [hs1]; rfl
                      obtain ⟨q, hq⟩ : ∃ q, q = k / 8 := ⟨_, rfl⟩
                      obtain ⟨r, hr⟩ : ∃ r, r = k % 8 := ⟨_, rfl⟩
                      have q1 : (k : Int) / 8 = (q : Int) := by omega
                      have r1 : (k : Int) % 8 = (r : Int) := by omega
                      have q2 : (q : Int) < 512 := by omega
                      have r2 : r < 8 := by omega
                      have cl := T.out.len
                      have hB : w.heap.size ≤ g := (O.out.lt g rfl).1
                      have ho' : wr.ownsRow w.heap.size 5 1 (.slice (some ⟨g, 0, none⟩) 512 cap) 512 (cells8 c) := by have := O.out; unfold Own at this; rw [cl] at this; exact this
                      have hcell : wr.cell? ⟨g, q, none⟩ = some (.int .u8 (c8 (c.getD q 0))) := by rw [ho'.cellAt q (by omega), cells8_at (by omega)]
                      have hfro : wr.frozen? ⟨g, q, none⟩ = false := ho'.frozenAt q
                      obtain ⟨y, hy⟩ : ∃ y, y = c.getD q 0 := ⟨_, rfl⟩
                      rw [← hy] at hcell
                      have NT : Hid (Tn l (c.set q (tuB y r)) a (i + 1) (n + 1) 2) := Lib.hid (by
                        have := T.out.turn hlt (by have := KK.out; omega) (Or.inr (by rw [← KK.out, hs1]; unfold stB; rw [if_neg (by omega), if_pos (by omega)]))
                        rw [← KK.out, show stB k = 2 by unfold stB; rw [if_neg (by omega), if_pos (by omega)], ← hq, ← hr, ← hy] at this
                        exact this)
                      have HB := Lib.hid hB
                      clear hq hr hy ho' cl hB
                      go_wp2_with fail
                      go_region
                      go_wp2_with fail
                      go_roundg (32 - (i + 1))
                      case measure => have := G.out; omega
                      case rel =>
                        refine ⟨i + 1, n + 1, 2, c.set q (tuB y r), by omega, rfl, by go_num, by go_num, by first | rfl | rw [hs1] | go_num, by omega, ?_, NT.out, (Bl.out.setCell HB.out _).drew⟩
                        rw [tu_c8 y r r2]; exact own_put8 O.out q _
                    · have f5 : ((2 : Int) == (st : Int)) = false := by rw [beq_eq_false_iff_ne]; omega
                      go_wp2_with fail
                      go_roundg (32 - (i + 1))
                      case measure => have := G.out; omega
                      case rel => exact ⟨i + 1, n, st, c, by omega, rfl, by go_num, rfl, rfl, by omega, O.out, T.out.keep, Bl.out⟩
                · have f2 : decide ((k : Int) ≥ 4000) = false := decide_eq_false (by omega)
                  by_cases hs0 : st = 0
                  · have f4 : ((st : Int) == 0) = true := by rw [hs0]; rfl
                    obtain ⟨q, hq⟩ : ∃ q, q = k / 8 := ⟨_, rfl⟩
                    obtain ⟨r, hr⟩ : ∃ r, r = k % 8 := ⟨_, rfl⟩
                    have q1 : (k : Int) / 8 = (q : Int) := by omega
                    have r1 : (k : Int) % 8 = (r : Int) := by omega
                    have q2 : (q : Int) < 512 := by omega
                    have r2 : r < 8 := by omega
                    have cl := T.out.len
                    have hB : w.heap.size ≤ g := (O.out.lt g rfl).1
                    have ho' : wr.ownsRow w.heap.size 5 1 (.slice (some ⟨g, 0, none⟩) 512 cap) 512 (cells8 c) := by have := O.out; unfold Own at this; rw [cl] at this; exact this
                    have hcell : wr.cell? ⟨g, q, none⟩ = some (.int .u8 (c8 (c.getD q 0))) := by rw [ho'.cellAt q (by omega), cells8_at (by omega)]
                    have hfro : wr.frozen? ⟨g, q, none⟩ = false := ho'.frozenAt q
                    obtain ⟨y, hy⟩ : ∃ y, y = c.getD q 0 := ⟨_, rfl⟩
                    rw [← hy] at hcell
                    have NT : Hid (Tn l (c.set q (tuB y r)) a (i + 1) (n + 1) 1) := Lib.hid (by
                      have := T.out.turn hlt (by have := KK.out; omega) (Or.inl hs0)
                      rw [← KK.out, show stB k = 1 by unfold stB; rw [if_neg (by omega), if_neg (by omega)], ← hq, ← hr, ← hy] at this
                      exact this)
                    have HB := Lib.hid hB
                    clear hq hr hy ho' cl hB
                    go_wp2_with fail
                    go_region
                    go_wp2_with fail
                    go_roundg (32 - (i + 1))
                    case measure => have := G.out; omega
                    case rel =>
                      refine ⟨i + 1, n + 1, 1, c.set q (tuB y r), by omega, rfl, by go_num, by go_num, by first | rfl | rw [hs1] | go_num, by omega, ?_, NT.out, (Bl.out.setCell HB.out _).drew⟩
                      rw [tu_c8 y r r2]; exact own_put8 O.out q _
                  · have f4 : ((st : Int) == 0) = false := by rw [beq_eq_false_iff_ne]; omega
                    by_cases hs1 : st = 1
                    · have f5 : ((1 : Int) == (st : Int)) = true := by rw [hs1]; rfl
                      obtain ⟨q, hq⟩ : ∃ q, q = k / 8 := ⟨_, rfl⟩
                      obtain ⟨r, hr⟩ : ∃ r, r = k % 8 := ⟨_, rfl⟩
                      have q1 : (k : Int) / 8 = (q : Int) := by omega
                      have r1 : (k : Int) % 8 = (r : Int) := by omega
                      have q2 : (q : Int) < 512 := by omega
                      have r2 : r < 8 := by omega
                      have cl := T.out.len
                      have hB : w.heap.size ≤ g := (O.out.lt g rfl).1
                      have ho' : wr.ownsRow w.heap.size 5 1 (.slice (some ⟨g, 0, none⟩) 512 cap) 512 (cells8 c) := by have := O.out; unfold Own at this; rw [cl] at this; exact this
                      have hcell : wr.cell? ⟨g, q, none⟩ = some (.int .u8 (c8 (c.getD q 0))) := by rw [ho'.cellAt q (by omega), cells8_at (by omega)]
                      have hfro : wr.frozen? ⟨g, q, none⟩ = false := ho'.frozenAt q
                      obtain ⟨y, hy⟩ : ∃ y, y = c.getD q 0 := ⟨_, rfl⟩
                      rw [← hy] at hcell
                      have NT : Hid (Tn l (c.set q (tuB y r)) a (i + 1) (n + 1) 1) := Lib.hid (by
                        have := T.out.turn hlt (by have := KK.out; omega) (Or.inr (by rw [← KK.out, hs1]; unfold stB; rw [if_neg (by omega), if_neg (by omega)]))
                        rw [← KK.out, show stB k = 1 by unfold stB; rw [if_neg (by omega), if_neg (by omega)], ← hq, ← hr, ← hy] at this
                        exact this)
                      have HB := Lib.hid hB
                      clear hq hr hy ho' cl hB
                      go_wp2_with fail
                      go_region
                      go_wp2_with fail
                      go_roundg (32 - (i + 1))
                      case measure => have := G.out; omega
                      case rel =>
                        refine ⟨i + 1, n + 1, 1, c.set q (tuB y r), by omega, rfl, by go_num, by go_num, by first | rfl | rw [hs1] | go_num, by omega, ?_, NT.out, (Bl.out.setCell HB.out _).drew⟩
                        rw [tu_c8 y r r2]; exact own_put8 O.out q _
                    · have f5 : ((1 : Int) == (st : Int)) = false := by rw [beq_eq_false_iff_ne]; omega
                      go_wp2_with fail
                      go_roundg (32 - (i + 1))
                      case measure => have := G.out; omega
                      case rel => exact ⟨i + 1, n, st, c, by omega, rfl, by go_num, rfl, rfl, by omega, O.out, T.out.keep, Bl.out⟩
        · have q0 : ¬ (i : Int) < 32 := by omega
          have ei : decide (i < 32) = false := decide_eq_false hlt
          go_wp2_with fail
          go_ret2
          exact ⟨_, c, n, rfl, O.out, T.out.len, fun h1 h2 => T.out.told h1 h2, Bl.out⟩
end Go.Proofs.Ythjekiddjldehaa
