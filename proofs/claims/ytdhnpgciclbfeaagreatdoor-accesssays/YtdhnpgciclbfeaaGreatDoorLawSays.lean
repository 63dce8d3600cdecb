/-
  AccessSays.
-/
import Derived.Test.YtdhnpgciclbfeaaGreatDoorAjS
import Derived.Test.YtdhnpgciclbfeaaGreatDoorLawDown
namespace Go.Proofs.YtdhnpgciclbfeaaGreatDoor
open Go.RowKit
namespace Ac
set_option maxHeartbeats 16000000 in
set_option maxRecDepth 100000 in
theorem all_says (v0 : Value) (l : List Sp) (s path : ByteArray) (w : World) (hm : L.HasM w) (hv : Row kSp w v0 l) (hf : ∀ o ∈ l, o.Fit) :
    Calls Tryz.prog 4 #[v0, .string s, .string path] w fun e w' => e = .returned (.bool true) ∧ Below w.heap.size w w' := by
  obtain ⟨a0, c0, rfl, hlc, hcm⟩ := hv.len
  obtain ⟨n0, hn0⟩ : ∃ n0, n0 = l.length := ⟨_, rfl⟩
  rw [← hn0] at hv ⊢
  have HV := Lib.hid hv
  have HF := Lib.hid hf
  have HN := Lib.hid hn0
  have hn1 : n0 ≤ 9223372036854775807 := by unfold maxLen at hcm; omega
  have HM := Lib.hid hm
  clear hv hf hm hlc hcm hn0
  go_enter Tryz.func4, Tryz.ntmps4
  go_wp2_with fail
  refine (lives_any w HM.out).mono ?_
  rintro e w1 ⟨t, b, rfl, S1⟩
  have T1 : Hid (∃ D', Ta w1 t b (0 + 1) D' ∧ Below w.heap.size w w1 ∧ Iv D') := Lib.hid ⟨D2, S1.out.1, S1.out.2.1, Iv.start⟩
  have LB : Hid (w.heap.size ≤ b) := Lib.hid S1.out.2.2
  clear S1
  go_wp2_with fail
  go_loopg [8] 60 (fun gg si wr => ∃ i : Nat, i ≤ 60 ∧ gg = 60 - i ∧ si = .int .i64 i ∧ Hid (∃ D', Ta wr t b (i + 1) D' ∧ Below w.heap.size w wr ∧ Iv D'))
  case atStart => exact ⟨0, by omega, rfl, rfl, T1⟩
  case round =>
    clear T1
    obtain ⟨i, hi, hg, rfl, S⟩ := hrel
    have G := Lib.hid hg
    clear hg
    go_upto_region 5 with fail
    go_cut [21] from 14 to 21 (fun sb wx => sb = .bool (decide (i < n0 ∧ i < 60)) ∧ wr = wx)
    case first =>
      by_cases ean : i < n0
      · have eae : (i : Int) < (n0 : Int) := by omega
        have eab : decide ((i : Int) < (n0 : Int)) = true := decide_eq_true eae
        have eac : decide (i < n0) = true := decide_eq_true ean
        by_cases ebn : i < 60
        · have ebe : (i : Int) < 60 := by omega
          have ebb : decide ((i : Int) < 60) = true := decide_eq_true ebe
          have ebc : decide (i < 60) = true := decide_eq_true ebn
          go_wp2_with fail
          go_meet
          case rel => exact ⟨by rw [decide_eq_true (show i < n0 ∧ i < 60 from ⟨ean, ebn⟩)], rfl⟩
        · have ebe : ¬ (i : Int) < 60 := by omega
          have ebb : decide ((i : Int) < 60) = false := decide_eq_false ebe
          have ebc : decide (i < 60) = false := decide_eq_false ebn
          go_wp2_with fail
          go_meet
          case rel => exact ⟨by rw [decide_eq_false (show ¬ (i < n0 ∧ i < 60) from fun z => ebn z.2)], rfl⟩
      · have eae : ¬ (i : Int) < (n0 : Int) := by omega
        have eab : decide ((i : Int) < (n0 : Int)) = false := decide_eq_false eae
        have eac : decide (i < n0) = false := decide_eq_false ean
        go_wp2_with fail
        go_meet
        case rel => exact ⟨by rw [decide_eq_false (show ¬ (i < n0 ∧ i < 60) from fun z => ean z.1)], rfl⟩
    case rest =>
      obtain ⟨rfl, rfl⟩ := hcut
      by_cases hlt : i < n0 ∧ i < 60
      · have gin : decide (i < n0 ∧ i < 60) = true := decide_eq_true hlt
        have h1 : (i : Int) < (n0 : Int) := by omega
        obtain ⟨D3, hT, hB, hI⟩ := S.out
        have T3 := Lib.hid (And.intro hT (And.intro hB hI))
        clear hT hB hI
        obtain ⟨bb, off, ea, pc⟩ := sp_at (HV.out.below T3.out.2.1) i (by rw [← HN.out]; exact hlt.1)
        subst ea
        have FT := Lib.hid (HF.out _ (show l.getD i kSp.z ∈ l from getD_inB (by rw [← HN.out]; exact hlt.1)))
        obtain ⟨⟨two, kind, verb, ⟨bp, bn, bs, bv⟩, p, q, u⟩, ho⟩ : ∃ o, o = l.getD i kSp.z := ⟨_, rfl⟩
        rw [← ho] at pc FT
        have p0 : wr.cell? ⟨bb, off + i * 10, none⟩ = some (.bool two) := pc 0 _ rfl
        have p1 : wr.cell? ⟨bb, off + i * 10 + 1, none⟩ = some (.int .i64 kind) := pc 1 _ rfl
        have p2 : wr.cell? ⟨bb, off + i * 10 + 2, none⟩ = some (.int .i64 verb) := pc 2 _ rfl
        have p3 : wr.cell? ⟨bb, off + i * 10 + 3, none⟩ = some (.string bp) := pc 3 _ rfl
        have p4 : wr.cell? ⟨bb, off + i * 10 + 4, none⟩ = some (.string bn) := pc 4 _ rfl
        have p5 : wr.cell? ⟨bb, off + i * 10 + 5, none⟩ = some (.string bs) := pc 5 _ rfl
        have p6 : wr.cell? ⟨bb, off + i * 10 + 6, none⟩ = some (.int .i64 bv) := pc 6 _ rfl
        have p7 : wr.cell? ⟨bb, off + i * 10 + 7, none⟩ = some (.string p) := pc 7 _ rfl
        have p8 : wr.cell? ⟨bb, off + i * 10 + 8, none⟩ = some (.string q) := pc 8 _ rfl
        have p9 : wr.cell? ⟨bb, off + i * 10 + 9, none⟩ = some (.string u) := pc 9 _ rfl
        have PL := Lib.hid (play_iv ⟨two, kind, verb, ⟨bp, bn, bs, bv⟩, p, q, u⟩ wr t b (i + 1) D3 T3.out.1 (by omega) FT.out T3.out.2.2)
        unfold Sp.cells at PL
        simp only at PL
        clear pc ho S
        go_wp2_with fail
        refine PL.out.mono ?_
        rintro e w2 ⟨rfl, D4, hT4, hk4, hi4⟩
        have S4 : Hid (∃ D', Ta w2 t b (i + 1 + 1) D' ∧ Below w.heap.size w w2 ∧ Iv D') := Lib.hid ⟨D4, hT4, T3.out.2.1.trans (hk4.below T3.out.2.1.size (fun x e => by rw [e]; exact LB.out)), hi4⟩
        clear hT4 hk4 hi4 p0 p1 p2 p3 p4 p5 p6 p7 p8 p9 PL
        go_wp2_with fail
        go_roundg (60 - (i + 1))
        case measure => have := G.out; omega
        case rel => exact ⟨i + 1, by omega, rfl, by go_num, S4⟩
      · as_aux_lemma =>
        have gin : decide (i < n0 ∧ i < 60) = false := decide_eq_false hlt
        obtain ⟨D3, hT, hB, hI⟩ := S.out
        have T3 := Lib.hid (And.intro hT (And.intro hB hI))
        obtain ⟨PW, p0, pt, pb, py⟩ : ∃ PW : World → Prop, PW wr ∧ (∀ W W', PW W → Below W.heap.size W W' → PW W') ∧ (∀ W, PW W → Below w.heap.size w W) ∧ (∀ (u p : ByteArray) (m : Int) (W : World), PW W → Calls Tryz.prog 13 #[.pointer (some ⟨t, 0, none⟩), .string u, .int .i64 m, .string p] W fun e w' => e = .returned (.bool true) ∧ Below W.heap.size W w') :=
          ⟨fun W => Below wr.heap.size wr W, Below.refl _ _, fun W W' h h' => h.trans (h'.mono h.size), fun W h => hB.trans (h.mono hB.size), fun u p m W hW => says_any u m p W t b (i + 1) D3 (hT.below hW) (by omega) hI⟩
        have P0 := Lib.hid p0
        have PT := Lib.hid pt
        have PB := Lib.hid pb
        have SY := Lib.hid py
        clear p0 pt pb py
        clear hT hB hI S T3 G
        rw [gin]
        clear hlt gin
        go_wp2_with fail
        go_loopg [9] 6 (fun gg sv wx => ∃ (k : Nat) (m : Int), k ≤ 6 ∧ gg = 6 - k ∧ sv = .int .i64 m ∧ Hid (m = (k : Int) - 1 ∧ PW wx))
        case atStart => exact ⟨0, -1, by omega, rfl, rfl, Lib.hid ⟨by omega, P0.out⟩⟩
        case round =>
          obtain ⟨k, m, hk, hg, rfl, Q0⟩ := hrel
          have MK := Lib.hid Q0.out.1
          have Q := Lib.hid Q0.out.2
          have G := Lib.hid hg
          clear hg Q0
          have h9 : -1 ≤ m := by have := MK.out; omega
          by_cases h2 : m < 5
          · have C1 := Lib.hid (SY.out s path m _ Q.out)
            go_wp2_with fail
            refine C1.out.mono ?_
            rintro e w3 ⟨rfl, hb3⟩
            have B3 := Lib.hid (PT.out _ _ Q.out hb3)
            clear hb3 C1
            have C2 := Lib.hid (SY.out ⟨#[114, 111, 111, 116]⟩ path m _ B3.out)
            go_wp2_with fail
            refine C2.out.mono ?_
            rintro e w4 ⟨rfl, hb4⟩
            have B4 := Lib.hid (PT.out _ _ B3.out hb4)
            clear hb4 C2 B3 Q
            go_wp2_with fail
            go_loopg [10] 12 (fun gg sj wx => ∃ j : Nat, j ≤ 12 ∧ gg = 12 - j ∧ sj = .int .i64 j ∧ Hid (PW wx))
            case atStart => exact ⟨0, by omega, rfl, rfl, B4⟩
            case round =>
              clear B4
              obtain ⟨j, hj, hg, rfl, Y⟩ := hrel
              have G2 := Lib.hid hg
              clear hg
              go_upto_region 14 with fail
              go_cut [54] (fun sb wx => sb = .bool (decide (j < n0 ∧ j < 12)) ∧ wr = wx)
              case first =>
                by_cases ean : j < n0
                · have eae : (j : Int) < (n0 : Int) := by omega
                  have eab : decide ((j : Int) < (n0 : Int)) = true := decide_eq_true eae
                  have eac : decide (j < n0) = true := decide_eq_true ean
                  by_cases ebn : j < 12
                  · have ebe : (j : Int) < 12 := by omega
                    have ebb : decide ((j : Int) < 12) = true := decide_eq_true ebe
                    have ebc : decide (j < 12) = true := decide_eq_true ebn
                    go_wp2_with fail
                    go_meet
                    case rel => exact ⟨by rw [decide_eq_true (show j < n0 ∧ j < 12 from ⟨ean, ebn⟩)], rfl⟩
                  · have ebe : ¬ (j : Int) < 12 := by omega
                    have ebb : decide ((j : Int) < 12) = false := decide_eq_false ebe
                    have ebc : decide (j < 12) = false := decide_eq_false ebn
                    go_wp2_with fail
                    go_meet
                    case rel => exact ⟨by rw [decide_eq_false (show ¬ (j < n0 ∧ j < 12) from fun z => ebn z.2)], rfl⟩
                · have eae : ¬ (j : Int) < (n0 : Int) := by omega
                  have eab : decide ((j : Int) < (n0 : Int)) = false := decide_eq_false eae
                  have eac : decide (j < n0) = false := decide_eq_false ean
                  go_wp2_with fail
                  go_meet
                  case rel => exact ⟨by rw [decide_eq_false (show ¬ (j < n0 ∧ j < 12) from fun z => ean z.1)], rfl⟩
              case rest =>
                obtain ⟨rfl, rfl⟩ := hcut
                by_cases hlt : j < n0 ∧ j < 12
                · have gin : decide (j < n0 ∧ j < 12) = true := decide_eq_true hlt
                  have h1 : (j : Int) < (n0 : Int) := by omega
                  have d0 : decide ((j : Int) < 0) = false := decide_eq_false (by omega)
                  obtain ⟨bb, off, ea, pc⟩ := sp_at (HV.out.below (PB.out _ Y.out)) j (by rw [← HN.out]; exact hlt.1)
                  subst ea
                  obtain ⟨⟨two, kind, verb, ⟨bp, bn, bs, bv⟩, p, q, u⟩, ho⟩ : ∃ o, o = l.getD j kSp.z := ⟨_, rfl⟩
                  rw [← ho] at pc
                  have p7 : wr.cell? ⟨bb, off + j * 10 + 7, none⟩ = some (.string p) := pc 7 _ rfl
                  have p9 : wr.cell? ⟨bb, off + j * 10 + 9, none⟩ = some (.string u) := pc 9 _ rfl
                  have e7 : ∀ (dq : Nat) (os : Array Obj), (Go.Sort.grow (redrawn wr dq) os).cell? ⟨bb, off + j * 10 + 7, none⟩ = some (.string p) := fun dq os => cell_regrown p7 dq os
                  have e9 : ∀ (dq : Nat) (os : Array Obj), (Go.Sort.grow (redrawn wr dq) os).cell? ⟨bb, off + j * 10 + 9, none⟩ = some (.string u) := fun dq os => cell_regrown p9 dq os
                  have SQ : Hid (∀ (dq : Nat) (os : Array Obj), Calls Tryz.prog 13 #[.pointer (some ⟨t, 0, none⟩), .string u, .int .i64 m, .string p] (Go.Sort.grow (redrawn wr dq) os) fun e w'' => e = .returned (.bool true) ∧ ∃ p : Regrown, w'' = Go.Sort.grow (redrawn wr p.d) p.os) := Lib.hid (fun dq os => Calls.regrown_of (SY.out u p m _ (PT.out _ _ Y.out (below_regrown wr dq os))))
                  clear pc ho p7 p9
                  go_upto_region 16 with fail
                  clear hlt gin
                  refine wp_region_quiet_below (by kernel_rfl) (by kernel_rfl) ?_
                  repeat (go_big_quiet_step (first | with_reducible exact SQ.out _ _))
                  refine wpQuiet_nil ?_
                  intro _ hw'
                  obtain ⟨⟨dq, osq⟩, hw''⟩ := hw'
                  subst hw''
                  have YE := Lib.hid (PT.out _ _ Y.out (below_regrown wr dq osq))
                  clear e7 e9 SQ
                  go_wp2_with fail
                  go_roundg (12 - (j + 1))
                  case measure => have := G2.out; omega
                  case rel => exact ⟨j + 1, by omega, rfl, by go_num, YE⟩
                · have gin : decide (j < n0 ∧ j < 12) = false := decide_eq_false hlt
                  rw [gin]
                  clear hlt gin
                  go_wp2_with fail
                  go_roundg (6 - (k + 1))
                  case measure => have := G.out; have := MK.out; omega
                  case rel => exact ⟨k + 1, m + 1, by have := MK.out; omega, rfl, by go_num, Lib.hid ⟨by have := MK.out; omega, Y.out⟩⟩
          · have h2' : ¬ m < 5 := h2
            go_wp2_with fail
            go_ret
            exact ⟨rfl, PB.out _ Q.out⟩
end Ac
end Go.Proofs.YtdhnpgciclbfeaaGreatDoor
