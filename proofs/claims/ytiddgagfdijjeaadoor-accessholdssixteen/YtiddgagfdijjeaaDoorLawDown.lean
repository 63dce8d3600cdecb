/-
  AccessGoesDown.
-/
import Derived.Test.YtiddgagfdijjeaaDoorAcU
import Derived.Test.YtiddgagfdijjeaaDoorScG
namespace Go.Proofs.YtiddgagfdijjeaaDoor
open Go.RowKit
namespace Ac
def kSp : Kd Sp := ⟨Sp.cells, 10, 29, 22, 128, ⟨false, 0, 0, Bd.z, ⟨#[]⟩, ⟨#[]⟩, ⟨#[]⟩⟩⟩
theorem sp_at {w : World} {a : Option Addr} {n c : Nat} {l : List Sp} (H : Row kSp w (.slice a n c) l) (k : Nat) (hk : k < l.length) : ∃ b off, a = some ⟨b, off, none⟩ ∧ ∀ j y, ((l.getD k kSp.z).cells)[j]? = some y → w.cell? ⟨b, off + k * 10 + j, none⟩ = some y := H.at k hk
set_option maxHeartbeats 16000000 in
set_option maxRecDepth 100000 in
theorem goes_down (v0 : Value) (l : List Sp) (s path : ByteArray) (w : World) (hm : L.HasM w) (hv : Row kSp w v0 l) (hf : ∀ o ∈ l, o.Fit) :
    Calls Tryd.prog 3 #[v0, .string s, .string path] w fun e w' => e = .returned (.bool true) ∧ Below w.heap.size w w' := by
  obtain ⟨a0, c0, rfl, hlc, hcm⟩ := hv.len
  obtain ⟨n0, hn0⟩ : ∃ n0, n0 = l.length := ⟨_, rfl⟩
  rw [← hn0] at hv ⊢
  have HV := Lib.hid hv
  have HF := Lib.hid hf
  have HN := Lib.hid hn0
  have hn1 : n0 ≤ 9223372036854775807 := by unfold maxLen at hcm; omega
  have HM := Lib.hid hm
  clear hv hf hm hlc hcm hn0
  go_enter Tryd.func3, Tryd.ntmps3
  go_wp2_with fail
  refine (lives_any w HM.out).mono ?_
  rintro e w1 ⟨t, b, rfl, S1⟩
  have T1 : Hid (∃ D', Ta w1 t b (0 + 1) D' ∧ Below w.heap.size w w1) := Lib.hid ⟨D2, S1.out.1, S1.out.2.1⟩
  have LB : Hid (w.heap.size ≤ b) := Lib.hid S1.out.2.2
  clear S1
  go_wp2_with fail
  go_loopg [8] 60 (fun gg si wr => ∃ i : Nat, i ≤ 60 ∧ gg = 60 - i ∧ si = .int .i64 i ∧ Hid (∃ D', Ta wr t b (i + 1) D' ∧ Below w.heap.size w wr))
  case atStart => exact ⟨0, by omega, rfl, rfl, T1⟩
  case round =>
    clear T1
    obtain ⟨i, hi, hg, rfl, S⟩ := hrel
    have G := Lib.hid hg
    clear hg
    by_cases hlt : i < n0 ∧ i < 60
    · have h1 : (i : Int) < (n0 : Int) := by omega
      have h2 : (i : Int) < 60 := by omega
      obtain ⟨D3, hT, hB⟩ := S.out
      have T3 := Lib.hid (And.intro hT hB)
      clear hT hB
      obtain ⟨bb, off, ea, pc⟩ := sp_at (HV.out.below T3.out.2) i (by rw [← HN.out]; exact hlt.1)
      subst ea
      have FT := Lib.hid (HF.out _ (show l.getD i kSp.z ∈ l by
        rw [List.getD_eq_getElem?_getD, List.getElem?_eq_getElem (by rw [← HN.out]; exact hlt.1)]
        exact List.getElem_mem _))
      obtain ⟨⟨two, kind, verb, ⟨bp, bn, bs, bv⟩, p, q, u⟩, ho⟩ : ∃ o, o = l.getD i kSp.z := ⟨_, rfl⟩
      rw [← ho] at pc FT
      have p0 : wr.cell? ⟨bb, off + i * 10, none⟩ = some (.bool two) := pc 0 _ rfl
      have p1 : wr.cell? ⟨bb, off + i * 10 + 1, none⟩ = some (.int .i64 kind) := pc 1 _ rfl
      have p2 : wr.cell? ⟨bb, off + i * 10 + 2, none⟩ = some (.int .i64 verb) := pc 2 _ rfl
      have p3 : wr.cell? ⟨bb, off + i * 10 + 3, none⟩ = some (.string bp) := pc 3 _ rfl
      have p4 : wr.cell? ⟨bb, off + i * 10 + 4, none⟩ = some (.string bn) := pc 4 _ rfl
      have p5 : wr.cell? ⟨bb, off + i * 10 + 5, none⟩ = some (.string bs) := pc 5 _ rfl
      have p6 : wr.cell? ⟨bb, off + i * 10 + 6, none⟩ = some (.int .i64 bv) := pc 6 _ rfl
      have p7 : wr.cell? ⟨bb, off + i * 10 + 7, none⟩ = some (.string p) := pc 7 _ rfl
      have p8 : wr.cell? ⟨bb, off + i * 10 + 8, none⟩ = some (.string q) := pc 8 _ rfl
      have p9 : wr.cell? ⟨bb, off + i * 10 + 9, none⟩ = some (.string u) := pc 9 _ rfl
      have PL := Lib.hid (play_any ⟨two, kind, verb, ⟨bp, bn, bs, bv⟩, p, q, u⟩ wr t b (i + 1) D3 T3.out.1 (by omega) FT.out)
      unfold Sp.cells at PL
      simp only at PL
      clear pc ho S
      go_wp2_with fail
      refine PL.out.mono ?_
      rintro e w2 ⟨rfl, D4, hT4, hk4⟩
      have S4 : Hid (∃ D', Ta w2 t b (i + 1 + 1) D' ∧ Below w.heap.size w w2) := Lib.hid ⟨D4, hT4, T3.out.2.trans (hk4.below T3.out.2.size (fun x e => by rw [e]; exact LB.out))⟩
      clear hT4 hk4 p0 p1 p2 p3 p4 p5 p6 p7 p8 p9 PL
      go_wp2_with fail
      go_roundg (60 - (i + 1))
      case measure => have := G.out; omega
      case rel => exact ⟨i + 1, by omega, rfl, by go_num, S4⟩
    · obtain ⟨D3, hT, hB⟩ := S.out
      have TD := Lib.hid (And.intro hT hB)
      clear hT hB S
      have LA := Lib.hid (line_all path wr TD.out.1.hm)
      have MY : Hid (∀ W (s : ByteArray) (v : Int) (p : ByteArray), Ta W t b (i + 1) D3 → Calls Tryd.prog 11 #[.pointer (some ⟨t, 0, none⟩), .string s, .int .i64 v, .string p] W fun e w' => ∃ r : Bool, e = .returned (.bool r) ∧ Hid (r = true ↔ MayP D3 s v p) ∧ Below W.heap.size W w') := Lib.hid fun W s v p h => by
        refine (may_any s v p W t b (i + 1) D3 h).mono ?_
        rintro e w' ⟨r, rfl, h1, h2⟩
        exact ⟨r, rfl, Lib.hid h1, h2⟩
      have hne : (decide ((i : Int) < (n0 : Int)) && decide ((i : Int) < 60)) = false := by
        rw [Bool.and_eq_false_iff, decide_eq_false_iff_not, decide_eq_false_iff_not]
        omega
      by_cases h1 : i < n0
      · have h1' : (i : Int) < (n0 : Int) := by omega
        have h2' : ¬ (i : Int) < 60 := by omega
        clear hlt hne
        go_wp2_with fail
        refine LA.out.mono ?_
        rintro e w3 ⟨a, n, c, rfl, hs, hb⟩
        obtain ⟨q, hq⟩ : ∃ q, q = path := ⟨_, rfl⟩
        rw [← hq] at hs ⊢
        have EQ := Lib.hid hq
        clear hq
        have S3 : Hid (Ta w3 t b (i + 1) D3 ∧ Below w.heap.size w w3 ∧ L.Strs w3 (.slice a n c) (lineP q)) := Lib.hid ⟨TD.out.1.below hb, TD.out.2.trans (hb.mono TD.out.2.size), hs⟩
        have NL : Hid (n = (lineP q).length ∧ n ≤ 9223372036854775807) := Lib.hid (by
          obtain ⟨a', c', e, h1, h2⟩ := hs.len
          simp only [Value.slice.injEq] at e
          unfold maxLen at h2
          exact ⟨e.2.1, by omega⟩)
        clear hs hb LA
        cases hp : L.splitO q with
        | none =>
          have e41 : L.splitE q = 41 := splitE_no hp
          rw [e41]
          go_wp2_with fail
          refine (MY.out w3 s 0 q S3.out.1).mono ?_
          rintro e w4 ⟨r, rfl, hr, hb⟩
          have S4 : Hid (Ta w4 t b (i + 1) D3 ∧ Below w.heap.size w w4 ∧ L.Strs w4 (.slice a n c) (lineP q)) := Lib.hid ⟨S3.out.1.below hb, S3.out.2.1.trans (hb.mono S3.out.2.1.size), S3.out.2.2.below hb⟩
          obtain rfl : r = false := by
            cases r with
            | false => rfl
            | true => exact absurd (hr.out.1 rfl) (may_none hp)
          clear hr hb
          go_wp2_with fail
          refine (MY.out w4 ⟨#[114, 111, 111, 116]⟩ 0 q S4.out.1).mono ?_
          rintro e w5 ⟨r, rfl, hr, hb⟩
          have S5 : Hid (Ta w5 t b (i + 1) D3 ∧ Below w.heap.size w w5 ∧ L.Strs w5 (.slice a n c) (lineP q)) := Lib.hid ⟨S4.out.1.below hb, S4.out.2.1.trans (hb.mono S4.out.2.1.size), S4.out.2.2.below hb⟩
          obtain rfl : r = false := by
            cases r with
            | false => rfl
            | true => exact absurd (hr.out.1 rfl) (may_none hp)
          clear hr hb
          go_wp2_with fail
          go_ret
          exact ⟨rfl, S5.out.2.1⟩
        | some ts =>
          have GD := Lib.hid (L.splitO_some hp)
          have e0 : L.splitE q = 0 := by unfold L.splitE; rw [hp]; rfl
          rw [e0]
          clear hp e0
          have hn2 := NL.out.2
          go_wp2_with fail
          go_loopg [11] 4 (fun gg sv wr => ∃ k : Nat, k ≤ 4 ∧ gg = 4 - k ∧ sv = .int .i64 k ∧ Hid (Ta wr t b (i + 1) D3 ∧ Below w.heap.size w wr ∧ L.Strs wr (.slice a n c) (lineP q)))
          case atStart => exact ⟨0, by omega, rfl, rfl, S3⟩
          case round =>
            clear S3
            obtain ⟨k, hk, hg, rfl, S⟩ := hrel
            have G2 := Lib.hid hg
            clear hg
            by_cases hk4 : k < 4
            · have hk4' : (k : Int) < 4 := by omega
              go_wp2_with fail
              go_loopg [12] n (fun gg si wx => ∃ j : Nat, j ≤ n ∧ gg = n - j ∧ si = .int .i64 j ∧ Hid (Ta wx t b (i + 1) D3 ∧ Below w.heap.size w wx ∧ L.Strs wx (.slice a n c) (lineP q)))
              case atStart => exact ⟨0, by omega, rfl, rfl, S⟩
              case round =>
                clear S
                obtain ⟨j, hj, hg, rfl, S⟩ := hrel
                have G3 := Lib.hid hg
                clear hg
                by_cases hjn : j < n
                · have hj' : (j : Int) < (n : Int) := by omega
                  obtain ⟨bb, off, ea, pc⟩ := S.out.2.2.at j (by rw [← NL.out.1]; exact hjn)
                  subst ea
                  obtain ⟨x, hx⟩ : ∃ x, x = (lineP q).getD j ⟨#[]⟩ := ⟨_, rfl⟩
                  rw [← hx] at pc
                  have MX : Hid (x ∈ L.lineOf ts) := Lib.hid (by
                    have e : lineP q = L.lineOf ts := by rw [GD.out.1]; exact lineP_good GD.out.2
                    rw [hx, ← e, List.getD_eq_getElem?_getD, List.getElem?_eq_getElem (by rw [← NL.out.1]; exact hjn)]
                    exact List.getElem_mem _)
                  have MD : Hid (∀ v, MayP D3 s v x → MayP D3 s v q) := Lib.hid fun v h => by rw [GD.out.1]; exact may_down GD.out.2 MX.out h
                  clear hx
                  go_wp2_with fail
                  refine (MY.out wr s (k : Int) x S.out.1).mono ?_
                  rintro e w6 ⟨r, rfl, hr, hb⟩
                  have S6 : Hid (Ta w6 t b (i + 1) D3 ∧ Below w.heap.size w w6 ∧ L.Strs w6 (.slice (some ⟨bb, off, none⟩) n c) (lineP q)) := Lib.hid ⟨S.out.1.below hb, S.out.2.1.trans (hb.mono S.out.2.1.size), S.out.2.2.below hb⟩
                  have pc6 : w6.cell? ⟨bb, off + j, none⟩ = some (.string x) := (hb.cell (block_lt_of_cell pc)).trans pc
                  clear hb
                  cases r with
                  | false =>
                    have NM : Hid (¬ MayP D3 s (k : Int) x) := Lib.hid fun h => by have := hr.out.2 h; simp at this
                    clear hr pc
                    by_cases hk0 : 0 < k
                    · have k0 : (k : Int) > 0 := by omega
                      have k0' : (0 : Int) < k := by omega
                      go_wp2_with fail
                      refine (MY.out w6 s (k : Int) x S6.out.1).mono ?_
                      rintro e w7 ⟨r, rfl, hr, hb⟩
                      have S7 : Hid (Ta w7 t b (i + 1) D3 ∧ Below w.heap.size w w7 ∧ L.Strs w7 (.slice (some ⟨bb, off, none⟩) n c) (lineP q)) := Lib.hid ⟨S6.out.1.below hb, S6.out.2.1.trans (hb.mono S6.out.2.1.size), S6.out.2.2.below hb⟩
                      obtain rfl : r = false := by
                        cases r with
                        | false => rfl
                        | true => exact absurd (hr.out.1 rfl) NM.out
                      clear hr hb
                      clear pc6
                      go_wp2_with fail
                      go_roundg (n - (j + 1))
                      case measure => have := G3.out; omega
                      case rel => exact ⟨j + 1, by omega, rfl, by go_num, S7⟩
                    · have k0 : ¬ (k : Int) > 0 := by omega
                      have k0' : ¬ (0 : Int) < k := by omega
                      clear pc6
                      go_wp2_with fail
                      go_roundg (n - (j + 1))
                      case measure => have := G3.out; omega
                      case rel => exact ⟨j + 1, by omega, rfl, by go_num, S6⟩
                  | true =>
                    have NM : Hid (MayP D3 s (k : Int) x) := Lib.hid (hr.out.1 rfl)
                    clear hr pc
                    go_wp2_with fail
                    refine (MY.out w6 s (k : Int) q S6.out.1).mono ?_
                    rintro e w7 ⟨r, rfl, hr, hb⟩
                    have S7 : Hid (Ta w7 t b (i + 1) D3 ∧ Below w.heap.size w w7 ∧ L.Strs w7 (.slice (some ⟨bb, off, none⟩) n c) (lineP q)) := Lib.hid ⟨S6.out.1.below hb, S6.out.2.1.trans (hb.mono S6.out.2.1.size), S6.out.2.2.below hb⟩
                    obtain rfl : r = true := hr.out.2 (MD.out _ NM.out)
                    have pc7 : w7.cell? ⟨bb, off + j, none⟩ = some (.string x) := (hb.cell (block_lt_of_cell pc6)).trans pc6
                    clear hr hb
                    clear pc6
                    by_cases hk0 : 0 < k
                    · have k0 : (k : Int) > 0 := by omega
                      have k0' : (0 : Int) < k := by omega
                      go_wp2_with fail
                      refine (MY.out w7 s (k : Int) x S7.out.1).mono ?_
                      rintro e w8 ⟨r, rfl, hr, hb⟩
                      have S8 : Hid (Ta w8 t b (i + 1) D3 ∧ Below w.heap.size w w8 ∧ L.Strs w8 (.slice (some ⟨bb, off, none⟩) n c) (lineP q)) := Lib.hid ⟨S7.out.1.below hb, S7.out.2.1.trans (hb.mono S7.out.2.1.size), S7.out.2.2.below hb⟩
                      obtain rfl : r = true := hr.out.2 NM.out
                      have pc8 : w8.cell? ⟨bb, off + j, none⟩ = some (.string x) := (hb.cell (block_lt_of_cell pc7)).trans pc7
                      clear hr hb
                      clear pc7
                      go_wp2_with fail
                      refine (MY.out w8 s ((k : Int) - 1) x S8.out.1).mono ?_
                      rintro e w9 ⟨r, rfl, hr, hb⟩
                      have S9 : Hid (Ta w9 t b (i + 1) D3 ∧ Below w.heap.size w w9 ∧ L.Strs w9 (.slice (some ⟨bb, off, none⟩) n c) (lineP q)) := Lib.hid ⟨S8.out.1.below hb, S8.out.2.1.trans (hb.mono S8.out.2.1.size), S8.out.2.2.below hb⟩
                      obtain rfl : r = true := hr.out.2 (may_less NM.out (by omega))
                      clear hr hb
                      clear pc8
                      go_wp2_with fail
                      go_roundg (n - (j + 1))
                      case measure => have := G3.out; omega
                      case rel => exact ⟨j + 1, by omega, rfl, by go_num, S9⟩
                    · have k0 : ¬ (k : Int) > 0 := by omega
                      have k0' : ¬ (0 : Int) < k := by omega
                      clear pc7
                      go_wp2_with fail
                      go_roundg (n - (j + 1))
                      case measure => have := G3.out; omega
                      case rel => exact ⟨j + 1, by omega, rfl, by go_num, S7⟩
                · have hj' : ¬ (j : Int) < (n : Int) := by omega
                  go_wp2_with fail
                  refine (MY.out wr ⟨#[114, 111, 111, 116]⟩ (k : Int) q S.out.1).mono ?_
                  rintro e w6 ⟨r, rfl, hr, hb⟩
                  have S6 : Hid (Ta w6 t b (i + 1) D3 ∧ Below w.heap.size w w6 ∧ L.Strs w6 (.slice a n c) (lineP q)) := Lib.hid ⟨S.out.1.below hb, S.out.2.1.trans (hb.mono S.out.2.1.size), S.out.2.2.below hb⟩
                  obtain rfl : r = true := hr.out.2 (by rw [GD.out.1]; exact may_root GD.out.2 (by omega) (by omega))
                  clear hr hb
                  go_wp2_with fail
                  go_roundg (4 - (k + 1))
                  case measure => have := G2.out; omega
                  case rel => exact ⟨k + 1, by omega, rfl, by go_num, S6⟩
            · have hk4' : ¬ (k : Int) < 4 := by omega
              go_wp2_with fail
              go_ret
              exact ⟨rfl, S.out.2.1⟩
      · have h1' : ¬ (i : Int) < (n0 : Int) := by omega
        clear hlt hne
        go_wp2_with fail
        refine LA.out.mono ?_
        rintro e w3 ⟨a, n, c, rfl, hs, hb⟩
        obtain ⟨q, hq⟩ : ∃ q, q = path := ⟨_, rfl⟩
        rw [← hq] at hs ⊢
        have EQ := Lib.hid hq
        clear hq
        have S3 : Hid (Ta w3 t b (i + 1) D3 ∧ Below w.heap.size w w3 ∧ L.Strs w3 (.slice a n c) (lineP q)) := Lib.hid ⟨TD.out.1.below hb, TD.out.2.trans (hb.mono TD.out.2.size), hs⟩
        have NL : Hid (n = (lineP q).length ∧ n ≤ 9223372036854775807) := Lib.hid (by
          obtain ⟨a', c', e, h1, h2⟩ := hs.len
          simp only [Value.slice.injEq] at e
          unfold maxLen at h2
          exact ⟨e.2.1, by omega⟩)
        clear hs hb LA
        cases hp : L.splitO q with
        | none =>
          have e41 : L.splitE q = 41 := splitE_no hp
          rw [e41]
          go_wp2_with fail
          refine (MY.out w3 s 0 q S3.out.1).mono ?_
          rintro e w4 ⟨r, rfl, hr, hb⟩
          have S4 : Hid (Ta w4 t b (i + 1) D3 ∧ Below w.heap.size w w4 ∧ L.Strs w4 (.slice a n c) (lineP q)) := Lib.hid ⟨S3.out.1.below hb, S3.out.2.1.trans (hb.mono S3.out.2.1.size), S3.out.2.2.below hb⟩
          obtain rfl : r = false := by
            cases r with
            | false => rfl
            | true => exact absurd (hr.out.1 rfl) (may_none hp)
          clear hr hb
          go_wp2_with fail
          refine (MY.out w4 ⟨#[114, 111, 111, 116]⟩ 0 q S4.out.1).mono ?_
          rintro e w5 ⟨r, rfl, hr, hb⟩
          have S5 : Hid (Ta w5 t b (i + 1) D3 ∧ Below w.heap.size w w5 ∧ L.Strs w5 (.slice a n c) (lineP q)) := Lib.hid ⟨S4.out.1.below hb, S4.out.2.1.trans (hb.mono S4.out.2.1.size), S4.out.2.2.below hb⟩
          obtain rfl : r = false := by
            cases r with
            | false => rfl
            | true => exact absurd (hr.out.1 rfl) (may_none hp)
          clear hr hb
          go_wp2_with fail
          go_ret
          exact ⟨rfl, S5.out.2.1⟩
        | some ts =>
          have GD := Lib.hid (L.splitO_some hp)
          have e0 : L.splitE q = 0 := by unfold L.splitE; rw [hp]; rfl
          rw [e0]
          clear hp e0
          have hn2 := NL.out.2
          go_wp2_with fail
          go_loopg [11] 4 (fun gg sv wr => ∃ k : Nat, k ≤ 4 ∧ gg = 4 - k ∧ sv = .int .i64 k ∧ Hid (Ta wr t b (i + 1) D3 ∧ Below w.heap.size w wr ∧ L.Strs wr (.slice a n c) (lineP q)))
          case atStart => exact ⟨0, by omega, rfl, rfl, S3⟩
          case round =>
            clear S3
            obtain ⟨k, hk, hg, rfl, S⟩ := hrel
            have G2 := Lib.hid hg
            clear hg
            by_cases hk4 : k < 4
            · have hk4' : (k : Int) < 4 := by omega
              go_wp2_with fail
              go_loopg [12] n (fun gg si wx => ∃ j : Nat, j ≤ n ∧ gg = n - j ∧ si = .int .i64 j ∧ Hid (Ta wx t b (i + 1) D3 ∧ Below w.heap.size w wx ∧ L.Strs wx (.slice a n c) (lineP q)))
              case atStart => exact ⟨0, by omega, rfl, rfl, S⟩
              case round =>
                clear S
                obtain ⟨j, hj, hg, rfl, S⟩ := hrel
                have G3 := Lib.hid hg
                clear hg
                by_cases hjn : j < n
                · have hj' : (j : Int) < (n : Int) := by omega
                  obtain ⟨bb, off, ea, pc⟩ := S.out.2.2.at j (by rw [← NL.out.1]; exact hjn)
                  subst ea
                  obtain ⟨x, hx⟩ : ∃ x, x = (lineP q).getD j ⟨#[]⟩ := ⟨_, rfl⟩
                  rw [← hx] at pc
                  have MX : Hid (x ∈ L.lineOf ts) := Lib.hid (by
                    have e : lineP q = L.lineOf ts := by rw [GD.out.1]; exact lineP_good GD.out.2
                    rw [hx, ← e, List.getD_eq_getElem?_getD, List.getElem?_eq_getElem (by rw [← NL.out.1]; exact hjn)]
                    exact List.getElem_mem _)
                  have MD : Hid (∀ v, MayP D3 s v x → MayP D3 s v q) := Lib.hid fun v h => by rw [GD.out.1]; exact may_down GD.out.2 MX.out h
                  clear hx
                  go_wp2_with fail
                  refine (MY.out wr s (k : Int) x S.out.1).mono ?_
                  rintro e w6 ⟨r, rfl, hr, hb⟩
                  have S6 : Hid (Ta w6 t b (i + 1) D3 ∧ Below w.heap.size w w6 ∧ L.Strs w6 (.slice (some ⟨bb, off, none⟩) n c) (lineP q)) := Lib.hid ⟨S.out.1.below hb, S.out.2.1.trans (hb.mono S.out.2.1.size), S.out.2.2.below hb⟩
                  have pc6 : w6.cell? ⟨bb, off + j, none⟩ = some (.string x) := (hb.cell (block_lt_of_cell pc)).trans pc
                  clear hb
                  cases r with
                  | false =>
                    have NM : Hid (¬ MayP D3 s (k : Int) x) := Lib.hid fun h => by have := hr.out.2 h; simp at this
                    clear hr pc
                    by_cases hk0 : 0 < k
                    · have k0 : (k : Int) > 0 := by omega
                      have k0' : (0 : Int) < k := by omega
                      go_wp2_with fail
                      refine (MY.out w6 s (k : Int) x S6.out.1).mono ?_
                      rintro e w7 ⟨r, rfl, hr, hb⟩
                      have S7 : Hid (Ta w7 t b (i + 1) D3 ∧ Below w.heap.size w w7 ∧ L.Strs w7 (.slice (some ⟨bb, off, none⟩) n c) (lineP q)) := Lib.hid ⟨S6.out.1.below hb, S6.out.2.1.trans (hb.mono S6.out.2.1.size), S6.out.2.2.below hb⟩
                      obtain rfl : r = false := by
                        cases r with
                        | false => rfl
                        | true => exact absurd (hr.out.1 rfl) NM.out
                      clear hr hb
                      clear pc6
                      go_wp2_with fail
                      go_roundg (n - (j + 1))
                      case measure => have := G3.out; omega
                      case rel => exact ⟨j + 1, by omega, rfl, by go_num, S7⟩
                    · have k0 : ¬ (k : Int) > 0 := by omega
                      have k0' : ¬ (0 : Int) < k := by omega
                      clear pc6
                      go_wp2_with fail
                      go_roundg (n - (j + 1))
                      case measure => have := G3.out; omega
                      case rel => exact ⟨j + 1, by omega, rfl, by go_num, S6⟩
                  | true =>
                    have NM : Hid (MayP D3 s (k : Int) x) := Lib.hid (hr.out.1 rfl)
                    clear hr pc
                    go_wp2_with fail
                    refine (MY.out w6 s (k : Int) q S6.out.1).mono ?_
                    rintro e w7 ⟨r, rfl, hr, hb⟩
                    have S7 : Hid (Ta w7 t b (i + 1) D3 ∧ Below w.heap.size w w7 ∧ L.Strs w7 (.slice (some ⟨bb, off, none⟩) n c) (lineP q)) := Lib.hid ⟨S6.out.1.below hb, S6.out.2.1.trans (hb.mono S6.out.2.1.size), S6.out.2.2.below hb⟩
                    obtain rfl : r = true := hr.out.2 (MD.out _ NM.out)
                    have pc7 : w7.cell? ⟨bb, off + j, none⟩ = some (.string x) := (hb.cell (block_lt_of_cell pc6)).trans pc6
                    clear hr hb
                    clear pc6
                    by_cases hk0 : 0 < k
                    · have k0 : (k : Int) > 0 := by omega
                      have k0' : (0 : Int) < k := by omega
                      go_wp2_with fail
                      refine (MY.out w7 s (k : Int) x S7.out.1).mono ?_
                      rintro e w8 ⟨r, rfl, hr, hb⟩
                      have S8 : Hid (Ta w8 t b (i + 1) D3 ∧ Below w.heap.size w w8 ∧ L.Strs w8 (.slice (some ⟨bb, off, none⟩) n c) (lineP q)) := Lib.hid ⟨S7.out.1.below hb, S7.out.2.1.trans (hb.mono S7.out.2.1.size), S7.out.2.2.below hb⟩
                      obtain rfl : r = true := hr.out.2 NM.out
                      have pc8 : w8.cell? ⟨bb, off + j, none⟩ = some (.string x) := (hb.cell (block_lt_of_cell pc7)).trans pc7
                      clear hr hb
                      clear pc7
                      go_wp2_with fail
                      refine (MY.out w8 s ((k : Int) - 1) x S8.out.1).mono ?_
                      rintro e w9 ⟨r, rfl, hr, hb⟩
                      have S9 : Hid (Ta w9 t b (i + 1) D3 ∧ Below w.heap.size w w9 ∧ L.Strs w9 (.slice (some ⟨bb, off, none⟩) n c) (lineP q)) := Lib.hid ⟨S8.out.1.below hb, S8.out.2.1.trans (hb.mono S8.out.2.1.size), S8.out.2.2.below hb⟩
                      obtain rfl : r = true := hr.out.2 (may_less NM.out (by omega))
                      clear hr hb
                      clear pc8
                      go_wp2_with fail
                      go_roundg (n - (j + 1))
                      case measure => have := G3.out; omega
                      case rel => exact ⟨j + 1, by omega, rfl, by go_num, S9⟩
                    · have k0 : ¬ (k : Int) > 0 := by omega
                      have k0' : ¬ (0 : Int) < k := by omega
                      clear pc7
                      go_wp2_with fail
                      go_roundg (n - (j + 1))
                      case measure => have := G3.out; omega
                      case rel => exact ⟨j + 1, by omega, rfl, by go_num, S7⟩
                · have hj' : ¬ (j : Int) < (n : Int) := by omega
                  go_wp2_with fail
                  refine (MY.out wr ⟨#[114, 111, 111, 116]⟩ (k : Int) q S.out.1).mono ?_
                  rintro e w6 ⟨r, rfl, hr, hb⟩
                  have S6 : Hid (Ta w6 t b (i + 1) D3 ∧ Below w.heap.size w w6 ∧ L.Strs w6 (.slice a n c) (lineP q)) := Lib.hid ⟨S.out.1.below hb, S.out.2.1.trans (hb.mono S.out.2.1.size), S.out.2.2.below hb⟩
                  obtain rfl : r = true := hr.out.2 (by rw [GD.out.1]; exact may_root GD.out.2 (by omega) (by omega))
                  clear hr hb
                  go_wp2_with fail
                  go_roundg (4 - (k + 1))
                  case measure => have := G2.out; omega
                  case rel => exact ⟨k + 1, by omega, rfl, by go_num, S6⟩
            · have hk4' : ¬ (k : Int) < 4 := by omega
              go_wp2_with fail
              go_ret
              exact ⟨rfl, S.out.2.1⟩
end Ac
end Go.Proofs.YtiddgagfdijjeaaDoor
