/-
  DevPlays.
-/
import Derived.Test.YtojemioophlplaaSdG
namespace Go.Proofs.Ytojemioophlplaa
open Go.RowKit Go.Maps
/-- The slice v holds the steps l. -/
def Ops (w : World) (v : Value) (l : List OpD) : Prop :=
  (∀ o ∈ l, o.At w) ∧ ∃ a cap, v = .slice a l.length cap ∧ l.length ≤ cap ∧ cap ≤ maxLen ∧ (l ≠ [] → ∃ b off, a = some ⟨b, off, none⟩ ∧ ∀ j x, l[j]? = some x → ∀ i u, x.cells[i]? = some u → w.cell? ⟨b, off + j * 8 + i, none⟩ = some u)
namespace Rf
set_option maxHeartbeats 8000000 in
set_option maxRecDepth 100000 in
theorem dev_plays (i1 i2 : Int) (v : Value) (l : List OpD) (w : World) (hv : Ops w v l) (hl : l.length ≤ 1048576) :
    Calls Try.prog 3 #[.int .i64 i1, .int .i64 i2, v] w fun e w' => e = .returned (.bool true) ∧ Below w.heap.size w w' := by
  obtain ⟨hA, av, cap, rfl, hlc, hcm, hcell⟩ := hv
  obtain ⟨m, hm⟩ : ∃ m, m = l.length := ⟨_, rfl⟩
  rw [← hm] at hlc hl ⊢
  have HA := Lib.hid hA
  have HC := Lib.hid hcell
  have MM := Lib.hid hm
  have HL := Lib.hid hl
  unfold maxLen at hcm
  clear hA hcell hm hl
  go_enter Try.func3, Try.ntmps3
  go_wp2_with fail
  refine (made_any i1 w w (Below.refl _ _)).mono ?_
  rintro e w1 ⟨p, rfl, hb1, h1⟩
  have B1 := Lib.hid hb1
  have M1 := Lib.hid h1
  clear h1 hb1
  go_wp2_with fail
  refine (made_any i2 w w1 B1.out).mono ?_
  rintro e w2 ⟨q, rfl, hb2, h2⟩
  have B2 := Lib.hid hb2
  have FIN : Hid (Below w.heap.size w w2) := Lib.hid (B1.out.trans (hb2.mono B1.out.size))
  have CB : Hid (∀ k u, w1.cell? ⟨p, k, none⟩ = some u → w2.cell? ⟨p, k, none⟩ = some u) := Lib.hid (fun k u h => (B2.out.cell (block_lt_of_cell h)).trans h)
  have M2 := Lib.hid h2
  clear h2 hb2
  rcases M1.out with ⟨_, hc1⟩ | ⟨_, ⟨d1, hc1⟩, hs1⟩
  · have p0 := CB.out 0 _ hc1
    clear hc1
    go_wp2_with fail
    go_ret
    exact ⟨rfl, FIN.out⟩
  · have p0 := CB.out 0 _ hc1
    rcases M2.out with ⟨_, hc2⟩ | ⟨_, ⟨d2, hc2⟩, hs2⟩
    · clear hc1 hs1
      go_wp2_with fail
      go_ret
      exact ⟨rfl, FIN.out⟩
    · have T0 : Hid (Tw w w2 p q 0) := Lib.hid (by
        obtain ⟨F, hF, hF2⟩ := hs1
        obtain ⟨G, hG, hG2⟩ := hs2
        have hF' : Sd w w2 p F 0 := by
          obtain ⟨⟨d, mb, mp, cv, x, bv, lv, kv, s, r, g1, g2, g3, g4, g5⟩, hb⟩ := hF
          exact ⟨⟨d, mb, mp, cv, x, bv, lv, kv, s, r, g1.below B2.out, g2, g3, g4, g5⟩, FIN.out⟩
        exact ⟨F, G, hF', hG, fun k e f => by have := (hF.lt k e).2; have := hG2 k f; omega⟩)
      clear hs1 hs2 hc1 M1 M2
      go_wp2_with fail
      clear p0 hc2
      go_loopg [11] m (fun gg si wr => ∃ i : Nat, i ≤ m ∧ gg = m - i ∧ si = .int .i64 i ∧ Hid (Tw w wr p q i))
      case atStart => exact ⟨0, by omega, rfl, rfl, T0⟩
      case round =>
        clear T0
        obtain ⟨i, hi, hg, rfl, S⟩ := hrel
        have G := Lib.hid hg
        clear hg
        by_cases hlt : i < m
        · have hlt' : (i : Int) < (m : Int) := by omega
          obtain ⟨b, off, rfl, hcs⟩ := HC.out (fun e => by rw [e] at MM; have := MM.out; simp at this; omega)
          obtain ⟨o, ho⟩ : ∃ o, l[i]? = some o := ⟨_, List.getElem?_eq_getElem (by rw [← MM.out]; exact hlt)⟩
          have OA := Lib.hid (HA.out o (List.mem_of_getElem? ho))
          have CL : ∀ j u, o.cells[j]? = some u → wr.cell? ⟨b, off + i * 8 + j, none⟩ = some u := fun j u hu => by
            have h := hcs i o ho j u hu
            exact (S.out.bel.cell (block_lt_of_cell h)).trans h
          have c0 : wr.cell? ⟨b, off + i * 8, none⟩ = some (.bool o.two) := CL 0 _ rfl
          have c1 : wr.cell? ⟨b, off + i * 8 + 1, none⟩ = some (.int .i64 o.kind) := CL 1 _ rfl
          have c2 : wr.cell? ⟨b, off + i * 8 + 2, none⟩ = some (.int .i64 o.blk) := CL 2 _ rfl
          have c3 : wr.cell? ⟨b, off + i * 8 + 3, none⟩ = some (.int .i64 o.n) := CL 3 _ rfl
          have c4 : wr.cell? ⟨b, off + i * 8 + 4, none⟩ = some (.int .i64 o.len) := CL 4 _ rfl
          have c5 : wr.cell? ⟨b, off + i * 8 + 5, none⟩ = some (.int .u8 (c8 o.fill)) := CL 5 _ rfl
          have c6 : wr.cell? ⟨b, off + i * 8 + 6, none⟩ = some o.bv := CL 6 _ rfl
          have c7 : wr.cell? ⟨b, off + i * 8 + 7, none⟩ = some o.fv := CL 7 _ rfl
          have PA := Lib.hid (Tw.plays S.out (by have := HL.out; omega) o OA.out)
          have PB := Lib.hid (Tw.plays S.out.swap (by have := HL.out; omega) o OA.out)
          have QB : Hid (∃ bv fv, o.bv = bv ∧ o.fv = fv) := Lib.hid ⟨_, _, rfl, rfl⟩
          obtain ⟨ab, cb, eb, _⟩ := OA.out.1
          obtain ⟨af, cf, ef, _⟩ := OA.out.2.1
          unfold OpD.cells at PA PB
          rw [eb] at c6 PA PB
          rw [ef] at c7 PA PB
          obtain ⟨two, h2⟩ : ∃ t, t = o.two := ⟨_, rfl⟩
          rw [← h2] at c0 PA PB
          clear CL hcs ho eb ef h2 QB
          cases two
          · go_wp2_with fail
            refine PA.out.mono ?_
            rintro e w3 ⟨rfl, hT⟩
            have S3 := Lib.hid hT
            clear hT PA PB c0 c1 c2 c3 c4 c5 c6 c7 S
            go_wp2_with fail
            go_roundg (m - (i + 1))
            case measure => have := G.out; omega
            case rel => exact ⟨i + 1, by omega, rfl, by go_num, S3⟩
          · go_wp2_with fail
            refine PB.out.mono ?_
            rintro e w3 ⟨rfl, hT⟩
            have S3 := Lib.hid hT.swap
            clear hT PA PB c0 c1 c2 c3 c4 c5 c6 c7 S
            go_wp2_with fail
            go_roundg (m - (i + 1))
            case measure => have := G.out; omega
            case rel => exact ⟨i + 1, by omega, rfl, by go_num, S3⟩
        · have E1 := Lib.hid (Tw.ends S.out (by have := HL.out; omega))
          clear S
          go_wp2_with fail
          refine E1.out.mono ?_
          rintro e w3 ⟨rfl, hT⟩
          have E2 := Lib.hid (Tw.ends hT.swap (by have := HL.out; omega))
          clear hT E1
          go_wp2_with fail
          refine E2.out.mono ?_
          rintro e w4 ⟨rfl, hT⟩
          have B4 := Lib.hid hT.bel
          clear hT E2
          go_wp2_with fail
          go_ret
          exact ⟨rfl, B4.out⟩
end Rf
end Go.Proofs.Ytojemioophlplaa
